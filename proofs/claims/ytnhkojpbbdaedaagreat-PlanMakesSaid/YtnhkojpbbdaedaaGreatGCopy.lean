/- slices.Clone of the lists of a world: each in a block of its own. -/
import Derived.Test.YtnhkojpbbdaedaaGreatGDescF
namespace Go.Proofs.YtnhkojpbbdaedaaGreat
open Go.ChangeShapes Go.WideShapes Go.ChangeAt Go.RowKit Go.Proofs.Tryz
open Lib (hid)
set_option linter.unusedVariables false
set_option maxRecDepth 100000
section
theorem Ns {α:Type} {k:Nat} {enc:α→List Value} (he:∀x,(enc x).length=k):∀xs:List α,(xs.flatMap enc).length=xs.length*k
 | []=>by simp
 | x :: r=>by rw [List.flatMap_cons,List.length_append,Ns he r,he,List.length_cons,Nat.add_mul,Nat.one_mul,Nat.add_comm]
theorem Ji {α:Type} {k:Nat} {enc:α→List Value} (he:∀x,(enc x).length=k):∀(xs:List α) (i:Nat) (hi:i<xs.length) (j:Nat),j<k→(xs.flatMap enc)[i*k+j]?=(enc xs[i])[j]?
 | [],i,hi,_,_=>by simp at hi
 | x :: r,0,_,j,hj=>by
   rw [List.flatMap_cons,Nat.zero_mul,Nat.zero_add,List.getElem?_append_left (by rw [he];exact hj)];rfl
 | x :: r,i+1,hi,j,hj=>by
   rw [List.flatMap_cons,List.getElem?_append_right (by rw [he,Nat.add_mul];omega),he,show (i+1)*k+j-k=i*k+j by rw [Nat.add_mul];omega,Ji he r i (by simpa using hi) j hj];rfl
def OwnR {α:Type} (k:Nat) (e:TypeId) (enc:α→List Value) (n:Nat) (W:World) (a:Option Addr) (xs:List α):Prop :=
 xs.length≤maxLen∧((xs=[]∧a=none)∨∃b cs,a=some ⟨b,0,none⟩∧n≤b∧Blk W b e cs∧∀i (hi:i<xs.length) j,j<k→cs[i*k+j]?=(enc xs[i])[j]?)
theorem OwnR.row {α:Type} {k:Nat} {e:TypeId} {enc:α→List Value} {n:Nat} {W:World} {a:Option Addr} {xs:List α} (h:OwnR k e enc n W a xs):Ar k enc W a xs:=by
 obtain ⟨hl,h⟩:=h
 refine ⟨hl,?_⟩
 rcases h with ⟨rfl,rfl⟩|⟨b,cs,rfl,_,hb,hc⟩
 ·exact .inl rfl
 ·exact .inr ⟨b,0,rfl,hb.lt,fun i hi j hj=>by rw [Nat.zero_add,hb.cell];exact hc i hi j hj⟩
theorem Kh {α:Type} {P:Program} (t e:TypeId) (k bytes:Nat) (z:Value) (enc:α→List Value) (hu:P.underlying t=some (.slice e)) (hinfo:(P.info? e).map (fun i=>(i.zero,i.size,i.bytes))=some (some z,k,bytes))
 (hz:z.cells.size=k) (hk:0<k) (hby:bytes≤64) (he:∀x,(enc x).length=k) (hone:∀x,∀u∈enc x,u.oneCell'=true) {W:World} (n:Nat) {a:Option Addr} {cap:Nat} {xs:List α} (hn:Blk W n e #[]) (hx:Ar k enc W a xs) (hl:xs.length≤1000000) :
 ∃g c cur W',(Builtin.append_ #[t,t] t #[.slice (some ⟨n,0,none⟩) 0 0,.slice a xs.length cap]).run P W=.ok (.slice (some ⟨g,0,none⟩) xs.length c) W' ∧
  n≤g∧Blk W' g e cur∧(∀i (hi:i<xs.length) j,j<k→cur[i*k+j]?=(enc xs[i])[j]?)∧Below n W W':=by
 obtain ⟨i0,hi0,hz0,hz1,hz2⟩:=info_parts hinfo
 have hlt:=hn.lt
 have hown:W.ownsRow n e k (.slice (some ⟨n,0,none⟩) 0 0) 0 []:=⟨by simp,.inr ⟨n,0,#[],rfl,Nat.le_refl _,hn,Nat.le_refl _,by unfold maxLen;omega,by simp,by simp⟩⟩
 by_cases hxe:xs=[]
 ·subst hxe
  have hsrc:Src P i0.size t (.slice a 0 cap) 0 [] W:=by
   cases a with
   | none=>exact Src.ofNil (w:=W) hu cap
   | some p=>exact Src.ofSlice W hu p 0 cap [] (by simp) (by simp) (by simp)
  exact ⟨n,0,#[],W,run_append_nothing W t t t e i0 hu hi0 (some ⟨n,0,none⟩) 0 0 (Nat.le_refl _) _ hsrc,Nat.le_refl _,hn,fun i hi=>absurd hi (by simp),Below.refl _ _⟩
 ·rcases hx.2 with h|⟨b,off,rfl,hb2,hc⟩
  ·exact absurd h hxe
  ·have hmem:∀j u,(xs.flatMap enc)[j]?=some u→W.cell? ((⟨b,off,none⟩:Addr).add j)=some u:=by
    intro j u hj
    have hjl:j<xs.length*k:=by rw [←Ns he xs];exact (List.getElem?_eq_some_iff.1 hj).1
    have hdiv:j / k<xs.length:=(Nat.div_lt_iff_lt_mul hk).2 hjl
    have hmod:j%k<k:=Nat.mod_lt _ hk
    have e1:j / k*k+j%k=j:=by rw [Nat.mul_comm];exact Nat.div_add_mod j k
    have e2:=Ji he xs (j / k) hdiv (j%k) hmod
    rw [e1,hj] at e2
    have e3:=hc (j / k) hdiv (j%k) hmod
    rw [show off+j / k*k+j%k=off+j by omega,←e2] at e3
    by_cases h0:j=0<;>simp [Addr.add,h0] at e3 ⊢<;>exact e3
   obtain ⟨v',W',hr,h1,h2,-⟩:=run_append_own (P:=P) W n t t e i0 z k bytes hu hi0 hz0 hz1 hz2 hz hk _ 0 [] hown ⟨b,off,none⟩ xs.length cap (xs.flatMap enc) (Ns he xs) hmem
    (fun u hu=>by obtain ⟨x,_,h⟩:=List.mem_flatMap.1 hu;exact hone x u h) (by unfold maxLen;omega) (Nat.le_trans (Nat.mul_le_mul (show 0+xs.length≤1000000 by omega) hby) (by decide)) (by omega)
   have hp:0<xs.length:=List.length_pos_iff.2 hxe
   rcases h1.2 with ⟨_,h0⟩|⟨g,c,cur,rfl,hg,hh,hcap,_,hsz,htk⟩
   ·omega
   ·refine ⟨g,c,cur,W',by rw [hr,Nat.zero_add],hg,hh,fun i hi j hj=>?_,(Below.refl _ _).grown h2 (by omega) (fun q hq=>by have:=(hown.lt q hq).1;exact this)⟩
    have e:(cur.toList.take ((0+xs.length)*k))[i*k+j]?=(([]++xs.flatMap enc):List Value)[i*k+j]?:=by rw [htk]
    have hlt2:i*k+j<xs.length*k:=by
     have:(i+1)*k≤xs.length*k:=Nat.mul_le_mul (by omega) (Nat.le_refl _)
     rw [Nat.add_mul,Nat.one_mul] at this
     omega
    rw [List.getElem?_take,if_pos (by rw [Nat.zero_add];exact hlt2),List.nil_append,Ji he xs i hi j hj] at e
    simpa using e
theorem Dl0 (x:Ex):(exC x).length=4:=rfl
theorem Ni (x:Pl):(plC x).length=2:=rfl
theorem Dl7 (x:Bool):(blC x).length=1:=rfl
theorem Jl (x:Int):(inC x).length=1:=rfl
theorem Dk9 (x:Ex):∀u∈exC x,u.oneCell'=true:=by intro u hu;simp [exC] at hu;rcases hu with rfl|rfl|rfl|rfl<;>rfl
theorem Zk (x:Pl):∀u∈plC x,u.oneCell'=true:=by intro u hu;simp [plC] at hu;rcases hu with rfl|rfl<;>rfl
theorem Dl6 (x:Bool):∀u∈blC x,u.oneCell'=true:=by intro u hu;simp [blC] at hu;subst hu;rfl
theorem Py (x:Int):∀u∈inC x,u.oneCell'=true:=by intro u hu;simp [inC] at hu;subst hu;rfl
theorem Dk7:(prog.info? 75).map (fun i=>(i.zero,i.size,i.bytes))=some (some (.agg #[.int .i64 0,.int .i64 0,.int .i64 0,.int .i64 0]),4,32):=by kernel_rfl
theorem Bw7:(prog.info? 4).map (fun i=>(i.zero,i.size,i.bytes))=some (some (.bool false),1,1):=by kernel_rfl
theorem Co9 (c:Nat) (w:World):(binOp .eql 23 (.slice none 0 c) (.slice none 0 0)).run prog w=.ok (.bool true) w:=by kernel_rfl
theorem Bu0 (p:Addr) (l c:Nat) (w:World):(binOp .eql 23 (.slice (some p) l c) (.slice none 0 0)).run prog w=.ok (.bool false) w:=by kernel_rfl
theorem Gv (a:Option Addr) (c:Nat) (xs:List Int) (w:World) (h:Ar 1 inC w a xs) (hl:xs.length≤1000000) :
 Calls prog 60 #[.slice a xs.length c] w fun e w'=>∃g gc,e=.returned (.slice g xs.length gc)∧OwnR 1 3 inC w.heap.size w' g xs∧Below w.heap.size w w':=by
 cases a with
 | none =>
   have hx:xs=[]:=by
    rcases h.2 with h|⟨b,off,h,_⟩
    ·exact h
    ·cases h
   subst hx
   clear h
   have hq:=Co9 c
   go_enter func60,ntmps60
   go_wp2_with fail
   go_ret
   exact ⟨none,0,rfl,⟨by simp,.inl ⟨rfl,rfl⟩⟩,Below.refl _ _⟩
 | some p =>
   obtain ⟨g,gc,cur,w2,hr,hg,hb,hc,hl2⟩:=Kh 23 3 1 8 (.int .i64 0) inC underlying23 Fj rfl (by decide) (by decide) Jl Py (cap:=c) (xs:=xs) w.heap.size (Blk.new w 3 #[]) (h.alloc _) hl
   have HR:=hid hr
   have HC:=hid hc
   have HB:=hid hb
   have HM:=hid h.1
   have H2:=hid (((Below.refl w.heap.size w).alloc (Nat.le_refl _) (.cells #[] 3)).trans hl2)
   clear hr hc hb hl2 h
   have hq:=Bu0 p xs.length c
   go_enter func60,ntmps60
   go_wp2_with (at_builtin;refine Bb rfl (.tmp 5) (.tmp 6) 23 rfl _ _ _ w2 rfl rfl HR.out ?_)
   go_wp2_with fail
   go_ret
   exact ⟨_,_,rfl,⟨HM.out,.inr ⟨g,cur,rfl,hg,HB.out,HC.out⟩⟩,H2.out⟩
theorem Bh3 (c:Nat) (w:World):(binOp .eql 27 (.slice none 0 c) (.slice none 0 0)).run prog w=.ok (.bool true) w:=by kernel_rfl
theorem Av2 (p:Addr) (l c:Nat) (w:World):(binOp .eql 27 (.slice (some p) l c) (.slice none 0 0)).run prog w=.ok (.bool false) w:=by kernel_rfl
theorem Ze (a:Option Addr) (c:Nat) (xs:List Pl) (w:World) (h:Ar 2 plC w a xs) (hl:xs.length≤1000000) :
 Calls prog 61 #[.slice a xs.length c] w fun e w'=>∃g gc,e=.returned (.slice g xs.length gc)∧OwnR 2 48 plC w.heap.size w' g xs∧Below w.heap.size w w':=by
 cases a with
 | none =>
   have hx:xs=[]:=by
    rcases h.2 with h|⟨b,off,h,_⟩
    ·exact h
    ·cases h
   subst hx
   clear h
   have hq:=Bh3 c
   go_enter func61,ntmps61
   go_wp2_with fail
   go_ret
   exact ⟨none,0,rfl,⟨by simp,.inl ⟨rfl,rfl⟩⟩,Below.refl _ _⟩
 | some p =>
   obtain ⟨g,gc,cur,w2,hr,hg,hb,hc,hl2⟩:=Kh 27 48 2 16 (.agg #[.int .i64 0,.int .i64 0]) plC underlying27 Qh rfl (by decide) (by decide) Ni Zk (cap:=c) (xs:=xs) w.heap.size (Blk.new w 48 #[]) (h.alloc _) hl
   have HR:=hid hr
   have HC:=hid hc
   have HB:=hid hb
   have HM:=hid h.1
   have H2:=hid (((Below.refl w.heap.size w).alloc (Nat.le_refl _) (.cells #[] 48)).trans hl2)
   clear hr hc hb hl2 h
   have hq:=Av2 p xs.length c
   go_enter func61,ntmps61
   go_wp2_with (at_builtin;refine Bb rfl (.tmp 5) (.tmp 6) 27 rfl _ _ _ w2 rfl rfl HR.out ?_)
   go_wp2_with fail
   go_ret
   exact ⟨_,_,rfl,⟨HM.out,.inr ⟨g,cur,rfl,hg,HB.out,HC.out⟩⟩,H2.out⟩
theorem Bv2 (c:Nat) (w:World):(binOp .eql 22 (.slice none 0 c) (.slice none 0 0)).run prog w=.ok (.bool true) w:=by kernel_rfl
theorem Bd5 (p:Addr) (l c:Nat) (w:World):(binOp .eql 22 (.slice (some p) l c) (.slice none 0 0)).run prog w=.ok (.bool false) w:=by kernel_rfl
theorem Ac5 (a:Option Addr) (c:Nat) (xs:List Ex) (w:World) (h:Ar 4 exC w a xs) (hl:xs.length≤1000000) :
 Calls prog 97 #[.slice a xs.length c] w fun e w'=>∃g gc,e=.returned (.slice g xs.length gc)∧OwnR 4 75 exC w.heap.size w' g xs∧Below w.heap.size w w':=by
 cases a with
 | none =>
   have hx:xs=[]:=by
    rcases h.2 with h|⟨b,off,h,_⟩
    ·exact h
    ·cases h
   subst hx
   clear h
   have hq:=Bv2 c
   go_enter func97,ntmps97
   go_wp2_with fail
   go_ret
   exact ⟨none,0,rfl,⟨by simp,.inl ⟨rfl,rfl⟩⟩,Below.refl _ _⟩
 | some p =>
   obtain ⟨g,gc,cur,w2,hr,hg,hb,hc,hl2⟩:=Kh 22 75 4 32 (.agg #[.int .i64 0,.int .i64 0,.int .i64 0,.int .i64 0]) exC underlying22 Dk7 rfl (by decide) (by decide) Dl0 Dk9 (cap:=c) (xs:=xs) w.heap.size (Blk.new w 75 #[]) (h.alloc _) hl
   have HR:=hid hr
   have HC:=hid hc
   have HB:=hid hb
   have HM:=hid h.1
   have H2:=hid (((Below.refl w.heap.size w).alloc (Nat.le_refl _) (.cells #[] 75)).trans hl2)
   clear hr hc hb hl2 h
   have hq:=Bd5 p xs.length c
   go_enter func97,ntmps97
   go_wp2_with (at_builtin;refine Bb rfl (.tmp 5) (.tmp 6) 22 rfl _ _ _ w2 rfl rfl HR.out ?_)
   go_wp2_with fail
   go_ret
   exact ⟨_,_,rfl,⟨HM.out,.inr ⟨g,cur,rfl,hg,HB.out,HC.out⟩⟩,H2.out⟩
theorem Bv3 (c:Nat) (w:World):(binOp .eql 24 (.slice none 0 c) (.slice none 0 0)).run prog w=.ok (.bool true) w:=by kernel_rfl
theorem Bd6 (p:Addr) (l c:Nat) (w:World):(binOp .eql 24 (.slice (some p) l c) (.slice none 0 0)).run prog w=.ok (.bool false) w:=by kernel_rfl
theorem Ac6 (a:Option Addr) (c:Nat) (xs:List Bool) (w:World) (h:Ar 1 blC w a xs) (hl:xs.length≤1000000) :
 Calls prog 98 #[.slice a xs.length c] w fun e w'=>∃g gc,e=.returned (.slice g xs.length gc)∧OwnR 1 4 blC w.heap.size w' g xs∧Below w.heap.size w w':=by
 cases a with
 | none =>
   have hx:xs=[]:=by
    rcases h.2 with h|⟨b,off,h,_⟩
    ·exact h
    ·cases h
   subst hx
   clear h
   have hq:=Bv3 c
   go_enter func98,ntmps98
   go_wp2_with fail
   go_ret
   exact ⟨none,0,rfl,⟨by simp,.inl ⟨rfl,rfl⟩⟩,Below.refl _ _⟩
 | some p =>
   obtain ⟨g,gc,cur,w2,hr,hg,hb,hc,hl2⟩:=Kh 24 4 1 1 (.bool false) blC underlying24 Bw7 rfl (by decide) (by decide) Dl7 Dl6 (cap:=c) (xs:=xs) w.heap.size (Blk.new w 4 #[]) (h.alloc _) hl
   have HR:=hid hr
   have HC:=hid hc
   have HB:=hid hb
   have HM:=hid h.1
   have H2:=hid (((Below.refl w.heap.size w).alloc (Nat.le_refl _) (.cells #[] 4)).trans hl2)
   clear hr hc hb hl2 h
   have hq:=Bd6 p xs.length c
   go_enter func98,ntmps98
   go_wp2_with (at_builtin;refine Bb rfl (.tmp 5) (.tmp 6) 24 rfl _ _ _ w2 rfl rfl HR.out ?_)
   go_wp2_with fail
   go_ret
   exact ⟨_,_,rfl,⟨HM.out,.inr ⟨g,cur,rfl,hg,HB.out,HC.out⟩⟩,H2.out⟩
end
section
section
variable {α:Type} {k:Nat} {e:TypeId} {enc:α→List Value} {n:Nat} {W W':World} {a:Option Addr} {xs:List α}
theorem OwnR.keep (h:OwnR k e enc n W a xs) (hb:∀b,n≤b→b<W.heap.size→W'.heap[b]?=W.heap[b]?):OwnR k e enc n W' a xs:=by
 obtain ⟨hl,h⟩:=h
 refine ⟨hl,h.imp id ?_⟩
 rintro ⟨b,cs,rfl,hn,hB,hc⟩
 exact ⟨b,cs,rfl,hn,(hb b hn hB.lt).trans hB,hc⟩
theorem OwnR.call (h:OwnR k e enc n W a xs) (hb:Below W.heap.size W W'):OwnR k e enc n W' a xs:=h.keep (fun b _ hl=>hb.block b hl)
theorem OwnR.alloc (h:OwnR k e enc n W a xs) (o:Obj):OwnR k e enc n (W.alloc o) a xs:=h.call (b_a _)
theorem OwnR.drew (h:OwnR k e enc n W a xs):OwnR k e enc n W.drew a xs:=h
theorem OwnR.set (h:OwnR k e enc n W a xs) {q:Nat} (hq:q<n) (i:Nat) (u:Value):OwnR k e enc n (W.setCell ⟨q,i,none⟩ u) a xs :=
 h.keep (fun b hn _=>Below.heap_setCell W _ u b (by show b≠q;omega))
theorem OwnR.less (h:OwnR k e enc n W a xs) {m:Nat} (hm:m≤n):OwnR k e enc m W a xs:=by
 obtain ⟨hl,h⟩:=h
 refine ⟨hl,h.imp id ?_⟩
 rintro ⟨b,cs,rfl,hn,hB,hc⟩
 exact ⟨b,cs,rfl,by omega,hB,hc⟩
end
structure Fz (n:Nat) (W:World) (p:Dp) (d:Ds):Prop where
 ex:OwnR 4 75 exC n W p.ex d.exits
 pl:OwnR 1 3 inC n W p.pl d.players
 co:OwnR 1 3 inC n W p.co d.coins
 it:OwnR 1 3 inC n W p.it d.items
 bo:OwnR 1 4 blC n W p.bo d.boxes
theorem Fz.desc {n:Nat} {W:World} {p:Dp} {d:Ds} (h:Fz n W p d):Ce W p d:=⟨h.ex.row,Av.2 h.pl.row,Av.2 h.co.row,Av.2 h.it.row,h.bo.row⟩
theorem Fz.keep {n:Nat} {W W':World} {p:Dp} {d:Ds} (h:Fz n W p d) (hb:∀b,n≤b→b<W.heap.size→W'.heap[b]?=W.heap[b]?):Fz n W' p d:=⟨h.ex.keep hb,h.pl.keep hb,h.co.keep hb,h.it.keep hb,h.bo.keep hb⟩
theorem Fz.call {n:Nat} {W W':World} {p:Dp} {d:Ds} (h:Fz n W p d) (hb:Below W.heap.size W W'):Fz n W' p d:=h.keep (fun b _ hl=>hb.block b hl)
def FewD (d:Ds):Prop:=d.exits.length≤1000000∧d.players.length≤1000000∧d.coins.length≤1000000∧d.items.length≤1000000∧d.boxes.length≤1000000
structure Two (t u:TypeId) (w v:World) (cs z:Array Value):Prop where
 a:Blk v w.heap.size t cs
 r:Blk v (w.heap.size+1) u z
 b:Below w.heap.size w v
section
variable {t s:TypeId} {w v v1:World} {cs z:Array Value}
theorem Two.rr (h:Two t s w v cs z):(∀i,v.cell? ⟨w.heap.size+1,i,none⟩=z[i]?)∧(∀i,v.frozen? ⟨w.heap.size+1,i,none⟩=false)∧w.heap.size+1<v.heap.size:=⟨h.r.cell,h.r.frozen,h.r.lt⟩
theorem Two.start (t s:TypeId) (w:World) (cs z:Array Value):Two t s w ((w.alloc (.cells cs t)).alloc (.cells z s)) cs z :=
 ⟨(Blk.new w _ cs).alloc _,Blk.newn _ _ _ (by simp),(b_a _).alloc (by simp) _⟩
theorem Two.call (h:Two t s w v cs z) (hb:Below v.heap.size v v1):Two t s w v1 cs z:=⟨h.a.call hb,h.r.call hb,bl h.b (hb.mono (Nat.le_refl _))⟩
theorem Two.drew (h:Two t s w v cs z):Two t s w v.drew cs z:=⟨h.a,h.r,⟨h.b.os,h.b.tape,h.b.output,h.b.size,h.b.block⟩⟩
theorem Two.set (h:Two t s w v cs z) (i:Nat) (u:Value):Two t s w (v.setCell ⟨w.heap.size,i,none⟩ u) (cs.setIfInBounds i u) z :=
 ⟨h.a.set_ i u,h.r.far (by show w.heap.size+1≠w.heap.size;omega) u,h.b.setCell (Nat.le_refl _) u⟩
theorem Two.set2 (h:Two t s w v cs z) (i:Nat) (u:Value):Two t s w (v.setCell ⟨w.heap.size+1,i,none⟩ u) cs (z.setIfInBounds i u) :=
 ⟨h.a.far (by show w.heap.size≠w.heap.size+1;omega) u,h.r.set_ i u,h.b.setCell (by show w.heap.size≤w.heap.size+1;omega) u⟩
theorem Two.alloc (h:Two t s w v cs z) (o:Obj):Two t s w (v.alloc o) cs z:=⟨h.a.alloc o,h.r.alloc o,h.b.alloc h.b.size o⟩
theorem Two.size (h:Two t s w v cs z):w.heap.size+2≤v.heap.size:=h.r.lt
end
theorem Ay7 (d:Ds) (p:Dp) (w:World) (h:Ce w p d) (hf:FewD d) :
 Calls prog 59 #[.agg (dC d p)] w fun e w'=>∃p':Dp,e=.returned (.agg (dC d p'))∧Fz w.heap.size w' p' d∧Below w.heap.size w w':=by
 have H:=hid h
 have HF:=hid hf
 clear h hf
 have C0:=hid (Two.start 26 26 w (dC d p) #[.slice none 0 0,.slice none 0 0,.slice none 0 0,.slice none 0 0,.slice none 0 0,.int .i64 0,.int .i64 0,.int .i64 0])
 have hDC:=@dC.eq_1
 go_enter func59,ntmps59
 go_wp2_with fail
 generalize hw0:(w.alloc (.cells (dC d p) 26)).alloc (.cells #[.slice none 0 0,.slice none 0 0,.slice none 0 0,.slice none 0 0,.slice none 0 0,.int .i64 0,.int .i64 0,.int .i64 0] 26)=v0 at *
 clear hw0
 refine (Ac5 _ _ _ v0 (H.out.below C0.out.b (Nat.le_refl _)).ex HF.out.1).mono ?_
 rintro e w1 ⟨g0,c0,rfl,o0,b0⟩
 have O0:=hid (o0.less C0.out.size)
 have D0:=hid (C0.out.call b0)
 have C1:=hid (show Two 26 26 w (w1.setCell ⟨w.heap.size,0,none⟩ (.slice g0 d.exits.length c0)) (dC d ⟨g0,c0,p.pl,p.plc,p.co,p.coc,p.it,p.itc,p.bo,p.boc⟩) #[.slice none 0 0,.slice none 0 0,.slice none 0 0,.slice none 0 0,.slice none 0 0,.int .i64 0,.int .i64 0,.int .i64 0] from D0.out.set 0 _)
 have O0:=hid (O0.out.set (q:=w.heap.size) (by omega) 0 (.slice g0 d.exits.length c0))
 have hc:=D0.out.a.cell
 have hz:=D0.out.a.frozen
 clear o0 b0
 go_wp2_with fail
 clear hc hz
 generalize hw1:w1.setCell ⟨w.heap.size,0,none⟩ (.slice g0 d.exits.length c0)=v1 at *
 clear hw1
 refine (Gv _ _ _ v1 (Av.1 (H.out.below C1.out.b (Nat.le_refl _)).pl) HF.out.2.1).mono ?_
 rintro e w2 ⟨g1,c1,rfl,o1,b1⟩
 have O1:=hid (o1.less C1.out.size)
 have O0:=hid (O0.out.call b1)
 have D1:=hid (C1.out.call b1)
 have C2:=hid (show Two 26 26 w (w2.setCell ⟨w.heap.size,1,none⟩ (.slice g1 d.players.length c1)) (dC d ⟨g0,c0,g1,c1,p.co,p.coc,p.it,p.itc,p.bo,p.boc⟩) #[.slice none 0 0,.slice none 0 0,.slice none 0 0,.slice none 0 0,.slice none 0 0,.int .i64 0,.int .i64 0,.int .i64 0] from D1.out.set 1 _)
 have O0:=hid (O0.out.set (q:=w.heap.size) (by omega) 1 (.slice g1 d.players.length c1))
 have O1:=hid (O1.out.set (q:=w.heap.size) (by omega) 1 (.slice g1 d.players.length c1))
 have hc:=D1.out.a.cell
 have hz:=D1.out.a.frozen
 clear o1 b1
 go_wp2_with fail
 clear hc hz
 generalize hw2:w2.setCell ⟨w.heap.size,1,none⟩ (.slice g1 d.players.length c1)=v2 at *
 clear hw2
 refine (Gv _ _ _ v2 (Av.1 (H.out.below C2.out.b (Nat.le_refl _)).co) HF.out.2.2.1).mono ?_
 rintro e w3 ⟨g2,c2,rfl,o2,b2⟩
 have O2:=hid (o2.less C2.out.size)
 have O0:=hid (O0.out.call b2)
 have O1:=hid (O1.out.call b2)
 have D2:=hid (C2.out.call b2)
 have C3:=hid (show Two 26 26 w (w3.setCell ⟨w.heap.size,2,none⟩ (.slice g2 d.coins.length c2)) (dC d ⟨g0,c0,g1,c1,g2,c2,p.it,p.itc,p.bo,p.boc⟩) #[.slice none 0 0,.slice none 0 0,.slice none 0 0,.slice none 0 0,.slice none 0 0,.int .i64 0,.int .i64 0,.int .i64 0] from D2.out.set 2 _)
 have O0:=hid (O0.out.set (q:=w.heap.size) (by omega) 2 (.slice g2 d.coins.length c2))
 have O1:=hid (O1.out.set (q:=w.heap.size) (by omega) 2 (.slice g2 d.coins.length c2))
 have O2:=hid (O2.out.set (q:=w.heap.size) (by omega) 2 (.slice g2 d.coins.length c2))
 have hc:=D2.out.a.cell
 have hz:=D2.out.a.frozen
 clear o2 b2
 go_wp2_with fail
 clear hc hz
 generalize hw3:w3.setCell ⟨w.heap.size,2,none⟩ (.slice g2 d.coins.length c2)=v3 at *
 clear hw3
 refine (Gv _ _ _ v3 (Av.1 (H.out.below C3.out.b (Nat.le_refl _)).it) HF.out.2.2.2.1).mono ?_
 rintro e w4 ⟨g3,c3,rfl,o3,b3⟩
 have O3:=hid (o3.less C3.out.size)
 have O0:=hid (O0.out.call b3)
 have O1:=hid (O1.out.call b3)
 have O2:=hid (O2.out.call b3)
 have D3:=hid (C3.out.call b3)
 have C4:=hid (show Two 26 26 w (w4.setCell ⟨w.heap.size,3,none⟩ (.slice g3 d.items.length c3)) (dC d ⟨g0,c0,g1,c1,g2,c2,g3,c3,p.bo,p.boc⟩) #[.slice none 0 0,.slice none 0 0,.slice none 0 0,.slice none 0 0,.slice none 0 0,.int .i64 0,.int .i64 0,.int .i64 0] from D3.out.set 3 _)
 have O0:=hid (O0.out.set (q:=w.heap.size) (by omega) 3 (.slice g3 d.items.length c3))
 have O1:=hid (O1.out.set (q:=w.heap.size) (by omega) 3 (.slice g3 d.items.length c3))
 have O2:=hid (O2.out.set (q:=w.heap.size) (by omega) 3 (.slice g3 d.items.length c3))
 have O3:=hid (O3.out.set (q:=w.heap.size) (by omega) 3 (.slice g3 d.items.length c3))
 have hc:=D3.out.a.cell
 have hz:=D3.out.a.frozen
 clear o3 b3
 go_wp2_with fail
 clear hc hz
 generalize hw4:w4.setCell ⟨w.heap.size,3,none⟩ (.slice g3 d.items.length c3)=v4 at *
 clear hw4
 refine (Ac6 _ _ _ v4 (H.out.below C4.out.b (Nat.le_refl _)).bo HF.out.2.2.2.2).mono ?_
 rintro e w5 ⟨g4,c4,rfl,o4,b4⟩
 have O4:=hid (o4.less C4.out.size)
 have O0:=hid (O0.out.call b4)
 have O1:=hid (O1.out.call b4)
 have O2:=hid (O2.out.call b4)
 have O3:=hid (O3.out.call b4)
 have D4:=hid (C4.out.call b4)
 have C5:=hid (show Two 26 26 w (w5.setCell ⟨w.heap.size,4,none⟩ (.slice g4 d.boxes.length c4)) (dC d ⟨g0,c0,g1,c1,g2,c2,g3,c3,g4,c4⟩) #[.slice none 0 0,.slice none 0 0,.slice none 0 0,.slice none 0 0,.slice none 0 0,.int .i64 0,.int .i64 0,.int .i64 0] from D4.out.set 4 _)
 have O0:=hid (O0.out.set (q:=w.heap.size) (by omega) 4 (.slice g4 d.boxes.length c4))
 have O1:=hid (O1.out.set (q:=w.heap.size) (by omega) 4 (.slice g4 d.boxes.length c4))
 have O2:=hid (O2.out.set (q:=w.heap.size) (by omega) 4 (.slice g4 d.boxes.length c4))
 have O3:=hid (O3.out.set (q:=w.heap.size) (by omega) 4 (.slice g4 d.boxes.length c4))
 have O4:=hid (O4.out.set (q:=w.heap.size) (by omega) 4 (.slice g4 d.boxes.length c4))
 have hc:=D4.out.a.cell
 have hz:=D4.out.a.frozen
 have hc2:=D4.out.r.cell
 have hz2:=D4.out.r.frozen
 clear o4 b4
 have hs2:=D4.out.size
 go_wp2_with fail
 clear hz hz2
 refine bodyPost_ret (v:=.agg (dC d ⟨g0,c0,g1,c1,g2,c2,g3,c3,g4,c4⟩)) (by simp [results,results59,go_sem,hc2]) rfl ⟨⟨g0,c0,g1,c1,g2,c2,g3,c3,g4,c4⟩,rfl,?_,?_⟩
 ·constructor
  ·refine OwnR.less (n:=w.heap.size+2) ?_ (by omega)
   iterate 8 refine OwnR.set (q:=w.heap.size+1) ?_ (by omega) _ _
   exact O0.out
  ·refine OwnR.less (n:=w.heap.size+2) ?_ (by omega)
   iterate 8 refine OwnR.set (q:=w.heap.size+1) ?_ (by omega) _ _
   exact O1.out
  ·refine OwnR.less (n:=w.heap.size+2) ?_ (by omega)
   iterate 8 refine OwnR.set (q:=w.heap.size+1) ?_ (by omega) _ _
   exact O2.out
  ·refine OwnR.less (n:=w.heap.size+2) ?_ (by omega)
   iterate 8 refine OwnR.set (q:=w.heap.size+1) ?_ (by omega) _ _
   exact O3.out
  ·refine OwnR.less (n:=w.heap.size+2) ?_ (by omega)
   iterate 8 refine OwnR.set (q:=w.heap.size+1) ?_ (by omega) _ _
   exact O4.out
 ·iterate 8 refine bs_1 ?_
  exact C5.out.b
end
section
structure Ao (n:Nat) (W:World) (p:Wp) (x:Wd):Prop where
 ex:∃m1 m2 m3:Nat,n≤m1∧m1≤m2∧m2≤m3∧m3≤W.heap.size∧Fz n W p.d x.d∧(∀q,(p.d.ex=some q∨p.d.pl=some q∨p.d.co=some q∨p.d.it=some q∨p.d.bo=some q)→q.block<m1) ∧
  OwnR 1 3 inC m1 W p.at_ x.at_∧(∀q,p.at_=some q→q.block<m2)∧OwnR 1 3 inC m2 W p.co x.coins∧(∀q,p.co=some q→q.block<m3)∧OwnR 2 48 plC m3 W p.wh x.wher
theorem Ao.world {n:Nat} {W:World} {p:Wp} {x:Wd} (h:Ao n W p x):Ab W p x:=by
 obtain ⟨m1,m2,m3,_,_,_,_,hd,_,ha,_,hc,_,hw⟩:=h.ex
 exact ⟨hd.desc,Av.2 ha.row,Av.2 hc.row,hw.row⟩
theorem Ao.call {n:Nat} {W W':World} {p:Wp} {x:Wd} (h:Ao n W p x) (hb:Below W.heap.size W W'):Ao n W' p x:=by
 obtain ⟨m1,m2,m3,h1,h2,h3,h4,hd,hdm,ha,ham,hc,hcm,hw⟩:=h.ex
 exact ⟨m1,m2,m3,h1,h2,h3,Nat.le_trans h4 hb.size,hd.call hb,hdm,ha.call hb,ham,hc.call hb,hcm,hw.call hb⟩
theorem Ao.less {n m:Nat} {W:World} {p:Wp} {x:Wd} (h:Ao n W p x) (hm:m≤n):Ao m W p x:=by
 obtain ⟨m1,m2,m3,h1,h2,h3,h4,hd,hr⟩:=h.ex
 exact ⟨m1,m2,m3,by omega,h2,h3,h4,⟨hd.ex.less hm,hd.pl.less hm,hd.co.less hm,hd.it.less hm,hd.bo.less hm⟩,hr⟩
theorem OwnR.in_ {α:Type} {k:Nat} {e:TypeId} {enc:α→List Value} {n:Nat} {W:World} {a:Option Addr} {xs:List α} (h:OwnR k e enc n W a xs) {q:Addr} (hq:a=some q):q.block<W.heap.size:=by
 rcases h.2 with ⟨_,h⟩|⟨b,cs,h,_,hb,_⟩
 ·rw [h] at hq;cases hq
 ·rw [h] at hq;cases hq;exact hb.lt
def FewW (x:Wd):Prop:=FewD x.d∧x.at_.length≤1000000∧x.coins.length≤1000000∧x.wher.length≤1000000
theorem Al8 {n:Nat} {w1 w2 w3 w4:World} {p:Wp} {x:Wd} (hn:n≤w1.heap.size) (hd:Fz n w1 p.d x.d) (ha:OwnR 1 3 inC w1.heap.size w2 p.at_ x.at_) (b2:Below w1.heap.size w1 w2)
 (hc:OwnR 1 3 inC w2.heap.size w3 p.co x.coins) (b3:Below w2.heap.size w2 w3) (hw:OwnR 2 48 plC w3.heap.size w4 p.wh x.wher) (b4:Below w3.heap.size w3 w4):Ao n w4 p x:=by
 refine ⟨w1.heap.size,w2.heap.size,w3.heap.size,hn,b2.size,b3.size,b4.size,((hd.call b2).call b3).call b4,?_,(ha.call b3).call b4,fun q hq=>ha.in_ hq,hc.call b4,fun q hq=>hc.in_ hq,hw⟩
 rintro q (h|h|h|h|h)
 ·exact hd.ex.in_ h
 ·exact hd.pl.in_ h
 ·exact hd.co.in_ h
 ·exact hd.it.in_ h
 ·exact hd.bo.in_ h
theorem Ao.keep {n:Nat} {W W':World} {p:Wp} {x:Wd} (h:Ao n W p x) (hs:W.heap.size≤W'.heap.size) (hb:∀b,n≤b→b<W.heap.size→W'.heap[b]?=W.heap[b]?):Ao n W' p x:=by
 obtain ⟨m1,m2,m3,h1,h2,h3,h4,hd,hdm,ha,ham,hc,hcm,hw⟩:=h.ex
 exact ⟨m1,m2,m3,h1,h2,h3,Nat.le_trans h4 hs,hd.keep hb,hdm,ha.keep (fun b hn=>hb b (by omega)),ham,hc.keep (fun b hn=>hb b (by omega)),hcm,hw.keep (fun b hn=>hb b (by omega))⟩
theorem Ao.set {n:Nat} {W:World} {p:Wp} {x:Wd} (h:Ao n W p x) {q:Nat} (hq:q<n) (i:Nat) (u:Value):Ao n (W.setCell ⟨q,i,none⟩ u) p x :=
 h.keep (by simp [World.setCell]) (fun b hn _=>Below.heap_setCell W _ u b (by show b≠q;omega))
def TwoE (t s:TypeId) (w v:World) (cs:Array Value):Prop:=∃z,Two t s w v cs z
theorem TwoE.mk {t s:TypeId} {w v:World} {cs z:Array Value} (h:Two t s w v cs z):TwoE t s w v cs:=⟨z,h⟩
theorem TwoE.set2 {t s:TypeId} {w v:World} {cs:Array Value} (h:TwoE t s w v cs) (i:Nat) (u:Value):TwoE t s w (v.setCell ⟨w.heap.size+1,i,none⟩ u) cs:=h.elim fun _ h=>⟨_,h.set2 i u⟩
theorem Ry {t s:TypeId} {w v:World} {cs:Array Value} (h:TwoE t s w v cs):Below w.heap.size w v∧w.heap.size<v.heap.size∧(∀i,v.cell? ⟨w.heap.size,i,none⟩=cs[i]?)∧w.heap.size+1<v.heap.size:=h.elim fun _ h=>⟨h.b,h.a.lt,h.a.cell,h.r.lt⟩
theorem Gi (x:Wd) (p:Wp) (w:World) (h:Ab w p x) (hf:FewW x) :
 Calls prog 32 #[.agg (wC x p)] w fun e w'=>∃p':Wp,e=.returned (.agg (wC x p'))∧Ao w.heap.size w' p' x∧Below w.heap.size w w':=by
 have H:=hid h
 have HF:=hid hf
 clear h hf
 have C0:=hid (Two.start 29 29 w (wC x p) zC)
 have hWC:=@wC.eq_1
 have hZC:=@zC.eq_1
 go_enter func32,ntmps32
 go_wp2_with fail
 refine tkS (S:=(fun w'=>Below w.heap.size w w'∧w.heap.size<w'.heap.size∧(∀i,w'.cell? ⟨w.heap.size,i,none⟩=((wC x p)[i]?:Option Value))∧w.heap.size+1<w'.heap.size)) (by (with_reducible exact ⟨C0.out.drew.b,C0.out.drew.a.lt,C0.out.drew.a.cell,C0.out.drew.r.lt⟩)) (fun hHeld=>?_)
 refine tkl [0,1,3,4,6,7,9,10] ?_
 iterate 8
  refine tW ?_
  try go_frame
 refine rdy1 2 (fun K hK=>?_)
 go_simp
 refine (Ay7 x.d p.d _ (H.out.d.below C0.out.drew.b (Nat.le_refl _)) HF.out.1).mono ?_;rintro e w1 ⟨q,rfl,od,hb1⟩;have D1:=hid (C0.out.drew.call hb1)
 try go_wp2_with fail
 refine hK.out _ _ (by (with_reducible exact ⟨D1.out.b,D1.out.a.lt,D1.out.a.cell,D1.out.r.lt⟩)) (fun hHeld=>?_)
 clear hK K
 try go_frame
 refine rdy1 5 (fun K hK=>?_)
 go_simp
 refine (Gv _ _ x.at_ _ (Av.1 (H.out.at_.below D1.out.b (Nat.le_refl _))) HF.out.2.1).mono ?_;rintro e w2 ⟨g1,c1,rfl,o1,hb2⟩;have D2:=hid (D1.out.call hb2)
 try go_wp2_with fail
 refine hK.out _ _ (by (with_reducible exact ⟨D2.out.b,D2.out.a.lt,D2.out.a.cell,D2.out.r.lt⟩)) (fun hHeld=>?_)
 clear hK K
 try go_frame
 refine rdy1 8 (fun K hK=>?_)
 go_simp
 refine (Gv _ _ x.coins _ (Av.1 (H.out.co.below D2.out.b (Nat.le_refl _))) HF.out.2.2.1).mono ?_;rintro e w3 ⟨g2,c2,rfl,o2,hb3⟩;have D3:=hid (D2.out.call hb3)
 try go_wp2_with fail
 refine hK.out _ _ (by (with_reducible exact ⟨D3.out.b,D3.out.a.lt,D3.out.a.cell,D3.out.r.lt⟩)) (fun hHeld=>?_)
 clear hK K
 try go_frame
 refine rdy1 11 (fun K hK=>?_)
 go_simp
 refine (Ze _ _ x.wher _ (H.out.wh.below D3.out.b (Nat.le_refl _)) HF.out.2.2.2).mono ?_;rintro e w4 ⟨g3,c3,rfl,o3,hb4⟩;have D4:=hid (D3.out.call hb4)
 try go_wp2_with fail
 refine hK.out _ _ (by (with_reducible exact ⟨D4.out.b,D4.out.a.lt,D4.out.a.cell,D4.out.r.lt⟩)) (fun hHeld=>?_)
 clear hK K
 try go_frame
 have O:=hid (Al8 (p:=⟨q,g1,c1,g2,c2,g3,c3⟩) (x:=x) (show w.heap.size+2≤w1.heap.size from D1.out.size) (show Fz (w.heap.size+2) w1 q x.d from ⟨od.ex.less C0.out.size,od.pl.less C0.out.size,od.co.less C0.out.size,od.it.less C0.out.size,od.bo.less C0.out.size⟩) o1 hb2 o2 hb3 o3 hb4)
 have hc2:=D4.out.r.cell
 have hz2:=D4.out.r.frozen
 have hs2:=D4.out.size
 clear od o1 o2 o3 hb1 hb2 hb3 hb4
 refine tkl [12] (tW ?_)
 try go_frame
 refine rdy1 13 (fun K hK=>?_)
 go_simp
 try go_wp2_with fail
 refine hK.out _ _ (by (refine Ry (t:=29) (s:=29) (w:=w) ?_;(iterate 11 with_reducible refine TwoE.set2 ?_ _ _);with_reducible exact TwoE.mk D4.out)) (fun hHeld=>?_)
 clear hK K
 try go_frame
 refine tkD ?_
 go_wp2_with fail
 refine bodyPost_ret (v:=.agg (wC x ⟨q,g1,c1,g2,c2,g3,c3⟩)) (by simp [results,results32,go_sem,hc2]) rfl ⟨⟨q,g1,c1,g2,c2,g3,c3⟩,rfl,?_,?_⟩
 ·refine Ao.less (n:=w.heap.size+2) ?_ (by omega)
  iterate 11 refine Ao.set (q:=w.heap.size+1) ?_ (by omega) _ _
  exact O.out
 ·iterate 11 refine bs_1 ?_
  exact D4.out.b
end
end Go.Proofs.YtnhkojpbbdaedaaGreat
