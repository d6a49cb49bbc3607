/- desc.New: the world of a description. -/
import Derived.Test.YtnhkojpbbdaedaaGreatGRight
import Derived.Test.YtnhkojpbbdaedaaGreatGRefD
namespace Go.Proofs.YtnhkojpbbdaedaaGreat
open Go.ChangeShapes Go.WideShapes Go.ChangeAt Go.RowKit Go.Proofs.Tryz
open Lib (hid)
set_option linter.unusedVariables false
set_option maxHeartbeats 2000000
set_option maxRecDepth 100000
section
def Ge9 (d:Ds) (w:World) (e:Ending) (w':World):Prop:=∃(x:Wd) (q:Wp),x=newW d∧e=.returned (.tuple #[.agg (wC x q),.int .i64 0])∧Ao w.heap.size w' q x∧Below w.heap.size w w'
end
section
theorem Vk {α:Type} {P:Program} (t e:TypeId) (k bytes:Nat) (z:Value) (enc:α→List Value) (hu:P.underlying t=some (.slice e)) (hinfo:(P.info? e).map (fun i=>(i.zero,i.size,i.bytes))=some (some z,k,bytes))
 (hz:z.cells.size=k) (hk:0<k) (hby:bytes≤64) (he:∀x,(enc x).length=k) (hone:∀x,∀u∈enc x,u.oneCell'=true) {W:World} {a:Option Addr} {cap:Nat} {xs:List α} (hx:Ar k enc W a xs) (hl:xs.length≤1000000) (hp:0<xs.length) :
 ∃g c W',(Builtin.append_ #[t,t] t #[.slice none 0 0,.slice a xs.length cap]).run P W=.ok (.slice (some ⟨g,0,none⟩) xs.length c) W'∧OwnR k e enc W.heap.size W' (some ⟨g,0,none⟩) xs∧Below W.heap.size W W':=by
 obtain ⟨i0,hi0,hz0,hz1,hz2⟩:=info_parts hinfo
 have hown:W.ownsRow W.heap.size e k (.slice none 0 0) 0 []:=⟨by simp,.inl ⟨rfl,rfl⟩⟩
 rcases hx.2 with h|⟨b,off,rfl,hb2,hc⟩
 ·subst h;simp at hp
 have hmem:∀j u,(xs.flatMap enc)[j]?=some u→W.cell? ((⟨b,off,none⟩:Addr).add j)=some u:=by
  intro j u hj
  have hjl:j<xs.length*k:=by rw [←Ns he xs];exact (List.getElem?_eq_some_iff.1 hj).1
  have hdiv:j / k<xs.length:=(Nat.div_lt_iff_lt_mul hk).2 hjl
  have hmod:j%k<k:=Nat.mod_lt _ hk
  have e1:j / k*k+j%k=j:=by rw [Nat.mul_comm];exact Nat.div_add_mod j k
  have e2:=Ji he xs (j / k) hdiv (j%k) hmod
  rw [e1,hj] at e2
  have e3:=hc (j / k) hdiv (j%k) hmod
  rw [show off+j / k*k+j%k=off+j by omega,←e2] at e3
  by_cases h0:j=0<;>simp [Addr.add,h0] at e3 ⊢<;>exact e3
 obtain ⟨v',W',hr,h1,h2,-⟩:=run_append_own (P:=P) W W.heap.size t t e i0 z k bytes hu hi0 hz0 hz1 hz2 hz hk _ 0 [] hown ⟨b,off,none⟩ xs.length cap (xs.flatMap enc) (Ns he xs) hmem
  (fun u hu=>by obtain ⟨x,_,h⟩:=List.mem_flatMap.1 hu;exact hone x u h) (by unfold maxLen;omega) (Nat.le_trans (Nat.mul_le_mul (show 0+xs.length≤1000000 by omega) hby) (by decide)) (Nat.le_refl _)
 rcases h1.2 with ⟨_,h0⟩|⟨g,c,cur,rfl,hg,hh,hcap,_,hsz,htk⟩
 ·omega
 ·refine ⟨g,c,W',by rw [hr,Nat.zero_add],⟨by unfold maxLen;omega,.inr ⟨g,cur,rfl,hg,hh,fun i hi j hj=>?_⟩⟩,(Below.refl _ _).grown h2 (Nat.le_refl _) (fun q hq=>by cases hq)⟩
  have e:(cur.toList.take ((0+xs.length)*k))[i*k+j]?=(([]++xs.flatMap enc):List Value)[i*k+j]?:=by rw [htk]
  have hlt2:i*k+j<xs.length*k:=by
   have:(i+1)*k≤xs.length*k:=Nat.mul_le_mul (by omega) (Nat.le_refl _)
   rw [Nat.add_mul,Nat.one_mul] at this
   omega
  rw [List.getElem?_take,if_pos (by rw [Nat.zero_add];exact hlt2),List.nil_append,Ji he xs i hi j hj] at e
  simpa using e
theorem Ap0 {W:World} {base n:Nat} {v:Value} {ys:List Value} (hown:W.ownsRow base 48 2 v n ys) (x y:Int) (hn:n+1≤1000000) (hb:base≤W.heap.size) :
 ∃v' W',(Builtin.append_ #[27,27] 27 #[v,.slice (some ⟨W.heap.size,0,none⟩) 1 1]).run prog (W.alloc (.cells #[.int .i64 x,.int .i64 y] 48))=.ok v' W'∧W'.ownsRow base 48 2 v' (n+1) (ys++[.int .i64 x,.int .i64 y]) ∧
  (∀b,b<W.heap.size→some b≠v.ownBlock→W'.heap[b]?=W.heap[b]?)∧W.heap.size≤W'.heap.size∧W'.os=W.os∧W'.tape=W.tape∧W'.output=W.output:=by
 obtain ⟨i0,hi0,hz0,hz1,hz2⟩:=info_parts Qh
 obtain ⟨v',W',hr,h1,h2,-,h4⟩:=run_append_own_at (P:=prog) (W.alloc (.cells #[.int .i64 x,.int .i64 y] 48)) base 27 27 48 i0 (.agg #[.int .i64 0,.int .i64 0]) 2 16 underlying27 hi0 hz0 hz1 hz2 rfl (by decide) v n ys (hown.alloc _) ⟨W.heap.size,0,none⟩ 1 1 [.int .i64 x,.int .i64 y] rfl
  (fun j u hj=>by
    have hj3:j<2:=by have:=(List.getElem?_eq_some_iff.1 hj).1;simpa using this
    have e:((⟨W.heap.size,0,none⟩:Addr).add j)=⟨W.heap.size,j,none⟩:=by by_cases h0:j=0<;>simp [Addr.add,h0]
    rw [e,World.cell?_alloc_at _ _ _ _ rfl]
    simpa using hj) (by intro u hu;simp at hu;rcases hu with rfl|rfl<;>rfl) (by unfold maxLen;omega) (by omega) (by simp;omega)
 refine ⟨v',W',hr,h1,fun b hb2 hne=>(h2.block b (by simp;omega) hne).trans (Below.heap_alloc W _ b hb2),?_,h2.os,h2.tape,h2.output⟩
 have:=h2.size
 simp at this
 omega
theorem Bv0 {W:World} {base n sz:Nat} {t:TypeId} {v:Value} {ys:List Value} (h:W.ownsRow base t sz v n ys):∃a c,v=.slice a n c:=by
 rcases h.2 with ⟨rfl,rfl⟩|⟨q,c,cur,rfl,hq,_⟩
 ·exact ⟨_,_,rfl⟩
 ·exact ⟨_,_,rfl⟩
theorem Co2 {W:World} {base:Nat} {a:Option Addr} {c:Nat} {xs:List Pl} (h:W.ownsRow base 48 2 (.slice a xs.length c) xs.length (xs.flatMap plC)) (hl:xs.length≤maxLen):OwnR 2 48 plC base W a xs:=by
 refine ⟨hl,?_⟩
 rcases h.2 with ⟨h1,h2⟩|⟨g,c2,cur,h1,hg,hh,hcap,_,hsz,htk⟩
 ·left
  simp only [Value.slice.injEq] at h1
  exact ⟨List.length_eq_zero_iff.1 h2,h1.1⟩
 ·right
  simp only [Value.slice.injEq] at h1
  refine ⟨g,cur,h1.1,hg,hh,fun i hi j hj=>?_⟩
  have e:(cur.toList.take (xs.length*2))[i*2+j]?=(xs.flatMap plC)[i*2+j]?:=by rw [htk]
  rw [List.getElem?_take,if_pos (by omega),Ji Ni xs i hi j hj] at e
  simpa using e
theorem Bd3 {P:Program} {ops:Array Oper} {o:Oper} {a:Act} {w:World} {K:Act→World→Prop} {Q:Exit→Act→World→Prop} {E:Prop}
 (hg:o.guard=none) (s x:Operand) (t:TypeId) (hop:o.op=Op.call { callee:=Callee.builtin Builtin.append,args:=#[s,x],argTypes:=#[t,t] })
 (v u v':Value) (w':World) (hs:a.eval s=v) (hx:a.eval x=u) (hrun:(Builtin.append_ #[t,t] o.type #[v,u]).run P w=.ok v' w')
 (hK:K (a.put o.dst v') w'):if Region.wanted o (yielded ops a.tmps)=true then Oper.wp P o a w K Q else E:=by
 rw [if_pos (by simp [Region.wanted,hg])]
 unfold Oper.wp
 simp [execOp,hop,resolve,invoke,builtin,hs,hx,hrun,Result.andThen]
 exact hK
end
section
structure NI (n B:Nat) (V wr:World) (cs:Array Value) (a:Option Addr) (c k:Nat) (xs:List Int):Prop where
 s:B≤wr.heap.size
 f:∀b,b<B→b≠n→wr.heap[b]?=V.heap[b]?
 os:wr.os=V.os
 tp:wr.tape=V.tape
 ot:wr.output=V.output
 bl:Blk wr n 29 cs
 o:wr.ownsRow B 48 2 (.slice a k c) k ((Bu (xs.take k)).flatMap plC)
theorem NI.blk {n B:Nat} {V wr:World} {cs:Array Value} {a:Option Addr} {c k:Nat} {xs:List Int} (h:NI n B V wr cs a c k xs) {g:Nat} {t:TypeId} {ds:Array Value} (hb:Blk V g t ds) (hg:g<B) (hn:g≠n):Blk wr g t ds:=(h.f g hg hn).trans hb
theorem NI.cell {n B:Nat} {V wr:World} {cs:Array Value} {a:Option Addr} {c k:Nat} {xs:List Int} (h:NI n B V wr cs a c k xs) {p:Addr} (hg:p.block<B) (hn:p.block≠n):wr.cell? p=V.cell? p:=by simp [World.cell?,h.f p.block hg hn]
theorem NI.below {n B m:Nat} {w V wr:World} {cs:Array Value} {a:Option Addr} {c k:Nat} {xs:List Int} (h:NI n B V wr cs a c k xs) (hb:Below m w V) (hm:m≤n) (hB:m≤B) (hV:V.heap.size≤B):Below m w wr :=
 ⟨h.os.trans hb.os,h.tp.trans hb.tape,h.ot.trans hb.output,Nat.le_trans hb.size (Nat.le_trans hV h.s),fun b hl=>(h.f b (by omega) (by omega)).trans (hb.block b hl)⟩
theorem NI.step {n B:Nat} {V wr W':World} {cs:Array Value} {a a':Option Addr} {c c' k:Nat} {xs:List Int} (h:NI n B V wr cs a c k xs) (hk:k<xs.length) (hn:n<B) (u:Value) (hu:u=.slice a' (k+1) c')
 (h1:W'.ownsRow B 48 2 (.slice a' (k+1) c') (k+1) ((Bu (xs.take k)).flatMap plC++[.int .i64 0,.int .i64 xs[k]])) (hf:∀b,b<wr.heap.size→some b≠(Value.slice a k c).ownBlock→W'.heap[b]?=wr.heap[b]?) (hs:wr.heap.size≤W'.heap.size) (ho:W'.os=wr.os) (ht:W'.tape=wr.tape) (hot:W'.output=wr.output) :
 NI n B V (W'.setCell ⟨n,10,none⟩ u) (cs.setIfInBounds 10 u) a' c' (k+1) xs:=by
 have hob:∀b,b<B→some b≠(Value.slice a k c).ownBlock:=fun b hb e=>by
  have:=(h.o.lt b e.symm).1;omega
 have hlen:(Bu (xs.take (k+1))).flatMap plC=(Bu (xs.take k)).flatMap plC++[.int .i64 0,.int .i64 xs[k]]:=by
  rw [List.take_succ_eq_append_getElem hk]
  unfold Bu
  rw [List.map_append,List.flatMap_append]
  rfl
 have hblk:Blk W' n 29 cs:=(hf n (by have:=h.s;omega) (hob n hn)).trans h.bl
 refine ⟨by have:=h.s;simp [World.setCell];omega,fun b hb hne=>?_,ho.trans h.os,ht.trans h.tp,hot.trans h.ot,hblk.set_ 10 u,?_⟩
 ·rw [Below.heap_setCell W' _ u b hne,hf b (by have:=h.s;omega) (hob b hb),h.f b hb hne]
 ·rw [hlen]
  refine h1.kept (row:=some n) ⟨rfl,rfl,rfl,by simp,fun b _ hne=>Below.heap_setCell W' _ u b (fun e=>hne (by rw [e]))⟩ (.inr fun e=>?_)
  have:=(h1.lt n e).1
  omega
end
section
def Jh (n:Nat) (W:World) (p:Dp) (q:Wp) (x:Wd):Prop :=
 q.d=p∧∃m,n≤m∧OwnR 1 3 inC n W q.at_ x.at_∧(∀r,q.at_=some r→r.block<m)∧OwnR 1 3 inC n W q.co x.coins∧(∀r,q.co=some r→r.block<m)∧OwnR 2 48 plC m W q.wh x.wher
theorem Jh.world {w W:World} {p:Dp} {q:Wp} {x:Wd} (h:Jh w.heap.size W p q x) (hd:Ce w p x.d) (hb:Below w.heap.size w W):Ab W q x:=by
 obtain ⟨rfl,m,_,h1,_,h2,_,h3⟩:=h
 exact ⟨hd.below hb (Nat.le_refl _),Av.2 h1.row,Av.2 h2.row,h3.row⟩
theorem Jh.call {n:Nat} {W W':World} {p:Dp} {q:Wp} {x:Wd} (h:Jh n W p q x) (hb:Below W.heap.size W W'):Jh n W' p q x:=by
 obtain ⟨h0,m,hm,h1,l1,h2,l2,h3⟩:=h
 exact ⟨h0,m,hm,h1.call hb,l1,h2.call hb,l2,h3.call hb⟩
theorem Jh.putPlace {n:Nat} {W:World} {p:Dp} {q:Wp} {x:Wd} (h:Jh n W p q x) {k:Nat} (hk:k<x.wher.length):∃b,q.wh=some ⟨b,0,none⟩∧n≤b∧b<W.heap.size∧(W.cell? ⟨b,k*2,none⟩=some (.int .i64 x.wher[k].kind)∧W.cell? ⟨b,k*2+1,none⟩=some (.int .i64 x.wher[k].id))∧(∀r,W.frozen? ⟨b,r,none⟩=false) ∧
 ∀y:Pl,Jh n ((W.setCell ⟨b,k*2,none⟩ (.int .i64 y.kind)).setCell ⟨b,k*2+1,none⟩ (.int .i64 y.id)) p q ⟨x.d,x.at_,x.coins,x.wher.set k y⟩:=by
 obtain ⟨h0,m,hm,h1,l1,h2,l2,h3⟩:=h
 obtain ⟨b,hb,hn,hl,hc,hf,hput⟩:=h3.put hk (j:=0) (by omega)
 refine ⟨b,hb,by omega,hl,⟨by simpa [plC] using hc 0 (by omega),by simpa [plC] using hc 1 (by omega)⟩,hf,fun y=>⟨h0,m,hm,(h1.far (fun r hr=>by have:=l1 r hr;omega) _ _).far (fun r hr=>by have:=l1 r hr;omega) _ _,l1,(h2.far (fun r hr=>by have:=l2 r hr;omega) _ _).far (fun r hr=>by have:=l2 r hr;omega) _ _,l2,?_⟩⟩
 have h4:=hput (.int .i64 y.kind) ⟨y.kind,x.wher[k].id⟩ rfl (fun r hr=>by
  obtain rfl|rfl:r=0∨r=1:=by omega
  ·rfl
  ·rfl)
 obtain ⟨b',hb',_,_,_,_,hput'⟩:=h4.put (i:=k) (by simpa using hk) (j:=1) (by omega)
 obtain rfl:b'=b:=by simpa using hb'.symm
 have h5:=hput' (.int .i64 y.id) y rfl (fun r hr=>by
  obtain rfl|rfl:r=0∨r=1:=by omega
  ·simp [plC]
  ·rfl)
 rw [hb]
 simpa using h5
theorem Bf5 {d:Ds} {p:Dp} {w W:World} {a1 a2 a3:Option Addr} {c1 c2 c3 m:Nat} (hd:Ce w p d) (hb:Below w.heap.size w W) (hm:w.heap.size≤m) (h1:OwnR 1 3 inC w.heap.size W a1 d.players) (l1:∀r,a1=some r→r.block<m)
 (h2:OwnR 1 3 inC w.heap.size W a2 d.coins) (l2:∀r,a2=some r→r.block<m) (h3:OwnR 2 48 plC m W a3 (Bu d.items)) :
 ∃(x:Wd) (q:Wp),x=newW d∧Ending.returned (.agg #[.slice p.ex d.exits.length p.exc,.slice p.pl d.players.length p.plc,.slice p.co d.coins.length p.coc,.slice p.it d.items.length p.itc,.slice p.bo d.boxes.length p.boc,.int .i64 d.room,.int .i64 d.player,.int .i64 d.box,.slice a1 d.players.length c1,.slice a2 d.coins.length c2,.slice a3 d.items.length c3])=.returned (.agg (wC x q))∧Ab W q x∧Below w.heap.size w W∧Jh w.heap.size W p q x:=by
 have hn:Jh w.heap.size W p ⟨p,a1,c1,a2,c2,a3,c3⟩ (newW d):=⟨rfl,m,hm,h1,l1,h2,l2,h3⟩
 exact ⟨newW d,⟨p,a1,c1,a2,c2,a3,c3⟩,rfl,by simp [newW,Bu],hn.world hd hb,hb,hn⟩
theorem Cg0 (d:Ds) (px pp pc pi pb:Option Addr) (pxc ppc pcc pic pbc:Nat) (w:World) (h:Ce w ⟨px,pxc,pp,ppc,pc,pcc,pi,pic,pb,pbc⟩ d) (hm:mayD d=true):Calls prog 15 #[.agg (dC d ⟨px,pxc,pp,ppc,pc,pcc,pi,pic,pb,pbc⟩)] w fun e w'=>∃(x:Wd) (q:Wp),x=newW d∧e=.returned (.agg (wC x q))∧Ab w' q x∧Below w.heap.size w w'∧Jh w.heap.size w' ⟨px,pxc,pp,ppc,pc,pcc,pi,pic,pb,pbc⟩ q x:=by
 have hf:=Kv hm
 have H:=hid h
 have hi16:d.items.length≤16:=by omega
 have b0:Below w.heap.size w (((w.alloc (.cells (dC d ⟨px,pxc,pp,ppc,pc,pcc,pi,pic,pb,pbc⟩) 26)).alloc (.cells zC 29)).alloc (.cells #[.slice px d.exits.length pxc,.slice pp d.players.length ppc,.slice pc d.coins.length pcc,.slice pi d.items.length pic,.slice pb d.boxes.length pbc,.int .i64 d.room,.int .i64 d.player,.int .i64 d.box,.slice none 0 0,.slice none 0 0,.slice none 0 0] 29)):=((b_a _).alloc (by simp) _).alloc (by simp;omega) _
 have k0:Blk (((w.alloc (.cells (dC d ⟨px,pxc,pp,ppc,pc,pcc,pi,pic,pb,pbc⟩) 26)).alloc (.cells zC 29)).alloc (.cells #[.slice px d.exits.length pxc,.slice pp d.players.length ppc,.slice pc d.coins.length pcc,.slice pi d.items.length pic,.slice pb d.boxes.length pbc,.int .i64 d.room,.int .i64 d.player,.int .i64 d.box,.slice none 0 0,.slice none 0 0,.slice none 0 0] 29)) w.heap.size 26 (dC d ⟨px,pxc,pp,ppc,pc,pcc,pi,pic,pb,pbc⟩):=((Blk.new w _ _).alloc _).alloc _
 have z0:Blk (((w.alloc (.cells (dC d ⟨px,pxc,pp,ppc,pc,pcc,pi,pic,pb,pbc⟩) 26)).alloc (.cells zC 29)).alloc (.cells #[.slice px d.exits.length pxc,.slice pp d.players.length ppc,.slice pc d.coins.length pcc,.slice pi d.items.length pic,.slice pb d.boxes.length pbc,.int .i64 d.room,.int .i64 d.player,.int .i64 d.box,.slice none 0 0,.slice none 0 0,.slice none 0 0] 29)) (w.heap.size+1) 29 zC:=(Blk.newn (w.alloc _) _ _ (n:=w.heap.size+1) (by simp)).alloc _
 have r0:Blk (((w.alloc (.cells (dC d ⟨px,pxc,pp,ppc,pc,pcc,pi,pic,pb,pbc⟩) 26)).alloc (.cells zC 29)).alloc (.cells #[.slice px d.exits.length pxc,.slice pp d.players.length ppc,.slice pc d.coins.length pcc,.slice pi d.items.length pic,.slice pb d.boxes.length pbc,.int .i64 d.room,.int .i64 d.player,.int .i64 d.box,.slice none 0 0,.slice none 0 0,.slice none 0 0] 29)) (w.heap.size+1+1) 29 #[.slice px d.exits.length pxc,.slice pp d.players.length ppc,.slice pc d.coins.length pcc,.slice pi d.items.length pic,.slice pb d.boxes.length pbc,.int .i64 d.room,.int .i64 d.player,.int .i64 d.box,.slice none 0 0,.slice none 0 0,.slice none 0 0]:=Blk.newn _ _ _ (by simp)
 have y0:(((w.alloc (.cells (dC d ⟨px,pxc,pp,ppc,pc,pcc,pi,pic,pb,pbc⟩) 26)).alloc (.cells zC 29)).alloc (.cells #[.slice px d.exits.length pxc,.slice pp d.players.length ppc,.slice pc d.coins.length pcc,.slice pi d.items.length pic,.slice pb d.boxes.length pbc,.int .i64 d.room,.int .i64 d.player,.int .i64 d.box,.slice none 0 0,.slice none 0 0,.slice none 0 0] 29)).heap.size=w.heap.size+3:=by simp
 generalize hV0:(((w.alloc (.cells (dC d ⟨px,pxc,pp,ppc,pc,pcc,pi,pic,pb,pbc⟩) 26)).alloc (.cells zC 29)).alloc (.cells #[.slice px d.exits.length pxc,.slice pp d.players.length ppc,.slice pc d.coins.length pcc,.slice pi d.items.length pic,.slice pb d.boxes.length pbc,.int .i64 d.room,.int .i64 d.player,.int .i64 d.box,.slice none 0 0,.slice none 0 0,.slice none 0 0] 29))=V0 at b0 k0 z0 r0 y0
 obtain ⟨g1,c1,u1,hr1,o1,l1⟩:=Vk 23 3 1 8 (.int .i64 0) inC underlying23 Fj rfl (by decide) (by decide) Jl Py (cap:=ppc) (xs:=d.players) (W:=V0) (Av.1 (H.out.below b0 (Nat.le_refl _)).pl) (by omega) (by omega)
 have k1:=k0.call l1
 have z1:=z0.call l1
 have r1:=r0.call l1
 have b1:=b0.trans (l1.mono (by omega))
 have y1:=l1.size
 have rr1:Blk (u1.setCell ⟨w.heap.size+1+1,8,none⟩ (.slice (some ⟨g1,0,none⟩) d.players.length c1)) (w.heap.size+1+1) 29 #[.slice px d.exits.length pxc,.slice pp d.players.length ppc,.slice pc d.coins.length pcc,.slice pi d.items.length pic,.slice pb d.boxes.length pbc,.int .i64 d.room,.int .i64 d.player,.int .i64 d.box,.slice (some ⟨g1,0,none⟩) d.players.length c1,.slice none 0 0,.slice none 0 0]:=r1.set_ 8 _
 have kk1:=k1.far (p:=⟨w.heap.size+1+1,8,none⟩) (by show w.heap.size≠w.heap.size+1+1;omega) (.slice (some ⟨g1,0,none⟩) d.players.length c1)
 have zz1:=z1.far (p:=⟨w.heap.size+1+1,8,none⟩) (by show w.heap.size+1≠w.heap.size+1+1;omega) (.slice (some ⟨g1,0,none⟩) d.players.length c1)
 have bb1:=b1.setCell (p:=⟨w.heap.size+1+1,8,none⟩) (by show w.heap.size≤w.heap.size+1+1;omega) (.slice (some ⟨g1,0,none⟩) d.players.length c1)
 have oo1:=(o1.less (m:=w.heap.size+3) (by omega)).set (q:=w.heap.size+1+1) (by omega) 8 (.slice (some ⟨g1,0,none⟩) d.players.length c1)
 have ys1:(u1.setCell ⟨w.heap.size+1+1,8,none⟩ (.slice (some ⟨g1,0,none⟩) d.players.length c1)).heap.size=u1.heap.size:=by simp [World.setCell]
 generalize hV1:u1.setCell ⟨w.heap.size+1+1,8,none⟩ (.slice (some ⟨g1,0,none⟩) d.players.length c1)=V1 at rr1 kk1 zz1 bb1 oo1 ys1
 obtain ⟨g2,c2,u2,hr2,o2,l2⟩:=Vk 23 3 1 8 (.int .i64 0) inC underlying23 Fj rfl (by decide) (by decide) Jl Py (cap:=pcc) (xs:=d.coins) (W:=V1) (Av.1 (H.out.below bb1 (Nat.le_refl _)).co) (by omega) (by omega)
 have k2:=kk1.call l2
 have z2:=zz1.call l2
 have r2:=rr1.call l2
 have b2:=bb1.trans (l2.mono (by omega))
 have o12:=oo1.call l2
 have y2:=l2.size
 have rr2:Blk (u2.setCell ⟨w.heap.size+1+1,9,none⟩ (.slice (some ⟨g2,0,none⟩) d.coins.length c2)) (w.heap.size+1+1) 29 #[.slice px d.exits.length pxc,.slice pp d.players.length ppc,.slice pc d.coins.length pcc,.slice pi d.items.length pic,.slice pb d.boxes.length pbc,.int .i64 d.room,.int .i64 d.player,.int .i64 d.box,.slice (some ⟨g1,0,none⟩) d.players.length c1,.slice (some ⟨g2,0,none⟩) d.coins.length c2,.slice none 0 0]:=r2.set_ 9 _
 have kk2:=k2.far (p:=⟨w.heap.size+1+1,9,none⟩) (by show w.heap.size≠w.heap.size+1+1;omega) (.slice (some ⟨g2,0,none⟩) d.coins.length c2)
 have zz2:=z2.far (p:=⟨w.heap.size+1+1,9,none⟩) (by show w.heap.size+1≠w.heap.size+1+1;omega) (.slice (some ⟨g2,0,none⟩) d.coins.length c2)
 have bb2:=b2.setCell (p:=⟨w.heap.size+1+1,9,none⟩) (by show w.heap.size≤w.heap.size+1+1;omega) (.slice (some ⟨g2,0,none⟩) d.coins.length c2)
 have oo12:=o12.set (q:=w.heap.size+1+1) (by omega) 9 (.slice (some ⟨g2,0,none⟩) d.coins.length c2)
 have oo2:=(o2.less (m:=w.heap.size+3) (by omega)).set (q:=w.heap.size+1+1) (by omega) 9 (.slice (some ⟨g2,0,none⟩) d.coins.length c2)
 have ys2:(u2.setCell ⟨w.heap.size+1+1,9,none⟩ (.slice (some ⟨g2,0,none⟩) d.coins.length c2)).heap.size=u2.heap.size:=by simp [World.setCell]
 generalize hV2:u2.setCell ⟨w.heap.size+1+1,9,none⟩ (.slice (some ⟨g2,0,none⟩) d.coins.length c2)=V2 at rr2 kk2 zz2 bb2 oo12 oo2 ys2
 have HV1:=hid hV1
 have HV2:=hid hV2
 have R1:=hid hr1
 have R2:=hid hr2
 have KK2:=hid kk2
 have ZZ2:=hid zz2
 have RR2:=hid rr2
 have BB2:=hid bb2
 have O1:=hid oo12
 have O2:=hid oo2
 have HI:=hid (H.out.below bb2 (Nat.le_refl _)).it
 have HMM:=hid (show d.players.length≤maxLen∧d.coins.length≤maxLen by unfold maxLen;omega)
 have Y2:w.heap.size+3≤V2.heap.size:=by omega
 have e1k:=k1.cell
 have e1r:=r1.cell
 have e1f:=r1.frozen
 have e1l:=k1.lt
 have e1m:=r1.lt
 have e2k:=k2.cell
 have e2r:=r2.cell
 have e2f:=r2.frozen
 have e2l:=k2.lt
 have e2m:=r2.lt
 clear hV1 hV2 hr1 hr2 kk2 zz2 rr2 bb2 oo12 oo2 k0 z0 r0 y0 b0 l1 o1 z1 b1 y1 rr1 kk1 zz1 bb1 oo1 ys1 o2 l2 z2 b2 o12 y2 ys2 k1 r1 k2 r2 hf h
 subst hV0
 have hWC:=@wC.eq_1
 have hZC:=@zC.eq_1
 have hDC:=@dC.eq_1
 go_enter func15,ntmps15
 go_wp2_with (at_builtin;first|(refine Bb rfl (.tmp 8) (.tmp 10) 23 rfl _ _ _ u1 rfl rfl R1.out ?_;clear R1)|(rw [HV1.out];refine Bb rfl (.tmp 14) (.tmp 16) 23 rfl _ _ _ u2 rfl rfl R2.out ?_;clear R2))
 rw [HV2.out]
 have N2:w.heap.size+1+1<V2.heap.size:=by omega
 clear e1k e1r e1f e1l e1m e2k e2r e2f e2l e2m
 go_loopw [4] (fun i wr=>∃(k:Nat) (a:Option Addr) (c:Nat),k≤d.items.length∧i=.int .i64 k∧NI (w.heap.size+1+1) V2.heap.size V2 wr #[.slice px d.exits.length pxc,.slice pp d.players.length ppc,.slice pc d.coins.length pcc,.slice pi d.items.length pic,.slice pb d.boxes.length pbc,.int .i64 d.room,.int .i64 d.player,.int .i64 d.box,.slice (some ⟨g1,0,none⟩) d.players.length c1,.slice (some ⟨g2,0,none⟩) d.coins.length c2,.slice a k c] a c k d.items) (fun i _=>d.items.length-(intOf i).toNat)
 case atStart=>exact ⟨0,none,0,Nat.zero_le _,rfl,⟨Nat.le_refl _,fun _ _ _=>rfl,rfl,rfl,rfl,RR2.out,⟨by simp [Bu],.inl ⟨rfl,rfl⟩⟩⟩⟩
 case round =>
  obtain ⟨k,a,c,hk,rfl,hni⟩:=hrel
  have NN:=hid hni
  have kb:=hni.blk KK2.out (by omega) (by omega)
  have hc0:=kb.cell
  have hc2:=hni.bl.cell
  have hl2:=hni.bl.lt
  have hl0:=kb.lt
  by_cases hlt:k<d.items.length
  ·obtain ⟨b,o,rfl,hb,hcs⟩:=(show Ae w pi d.items from H.out.it).at_ hlt
   have hi0:=(BB2.out.cell (p:=⟨b,o+k,none⟩) hb).trans (hcs k hlt)
   have hi1:wr.cell? ⟨b,o+k,none⟩=some (.int .i64 d.items[k]):=(NN.out.cell (p:=⟨b,o+k,none⟩) (by show b<V2.heap.size;omega) (by show b≠w.heap.size+1+1;omega)).trans hi0
   have hs3:=NN.out.s
   obtain ⟨v3,u3,hr3,h13,hf3,hs33,ho3,ht3,hot3⟩:=Ap0 (W:=wr.drew) NN.out.o.drew 0 d.items[k] (by omega) hs3
   obtain ⟨a2,c3,rfl⟩:=Bv0 h13
   have hob:∀q,q<V2.heap.size→some q≠(Value.slice a k c).ownBlock:=fun q hq e=>by
    have:=(NN.out.o.lt q e.symm).1;omega
   have M0:Blk u3 w.heap.size 26 (dC d ⟨px,pxc,pp,ppc,pc,pcc,some ⟨b,o,none⟩,pic,pb,pbc⟩):=(hf3 _ (by show w.heap.size<wr.heap.size;omega) (hob _ (by omega))).trans kb
   have M2:Blk u3 (w.heap.size+1+1) 29 #[.slice px d.exits.length pxc,.slice pp d.players.length ppc,.slice pc d.coins.length pcc,.slice (some ⟨b,o,none⟩) d.items.length pic,.slice pb d.boxes.length pbc,.int .i64 d.room,.int .i64 d.player,.int .i64 d.box,.slice (some ⟨g1,0,none⟩) d.players.length c1,.slice (some ⟨g2,0,none⟩) d.coins.length c2,.slice a k c]:=(hf3 _ (by show w.heap.size+1+1<wr.heap.size;omega) (hob _ (by omega))).trans hni.bl
   have mc2:=M2.cell
   have mf2:=M2.frozen
   have ml2:=M2.lt
   have mi:u3.cell? ⟨b,o+k,none⟩=some (.int .i64 d.items[k]):=by
    exact (World.cell?_of_block (w:=wr.drew) (a:=⟨b,o+k,none⟩) (hf3 b (by show b<wr.heap.size;omega) (hob _ (by omega)))).trans hi1
   have RN:=hid (NN.out.step hlt N2 (.slice a2 (k+1) c3) rfl h13 hf3 hs33 ho3 ht3 hot3)
   generalize d.items[k]=x at *
   have R3:=hid hr3
   have KA:=hid (show (∀i,wr.drew.cell? ⟨w.heap.size,i,none⟩=((dC d ⟨px,pxc,pp,ppc,pc,pcc,some ⟨b,o,none⟩,pic,pb,pbc⟩)[i]?:Option Value))∧wr.drew.cell? ⟨b,o+k,none⟩=some (.int .i64 x) from ⟨kb.cell,hi1⟩)
   have KB:=hid (show (∀i,(wr.alloc (.cells #[.int .i64 0,.int .i64 x] 48)).drew.cell? ⟨w.heap.size,i,none⟩=((dC d ⟨px,pxc,pp,ppc,pc,pcc,some ⟨b,o,none⟩,pic,pb,pbc⟩)[i]?:Option Value))∧(wr.alloc (.cells #[.int .i64 0,.int .i64 x] 48)).drew.cell? ⟨b,o+k,none⟩=some (.int .i64 x) from ⟨(kb.alloc _).cell,(World.cell?_alloc_lt _ _ _ (by show b<wr.heap.size;omega)).trans hi1⟩)
   have KC:=hid (show (∀i,u3.cell? ⟨w.heap.size,i,none⟩=((dC d ⟨px,pxc,pp,ppc,pc,pcc,some ⟨b,o,none⟩,pic,pb,pbc⟩)[i]?:Option Value))∧u3.cell? ⟨b,o+k,none⟩=some (.int .i64 x) from ⟨M0.cell,mi⟩)
   have KD:=hid (show (∀i,(u3.setCell ⟨w.heap.size+1+1,10,none⟩ (.slice a2 (k+1) c3)).cell? ⟨w.heap.size,i,none⟩=((dC d ⟨px,pxc,pp,ppc,pc,pcc,some ⟨b,o,none⟩,pic,pb,pbc⟩)[i]?:Option Value))∧(u3.setCell ⟨w.heap.size+1+1,10,none⟩ (.slice a2 (k+1) c3)).cell? ⟨b,o+k,none⟩=some (.int .i64 x) from ⟨(M0.far (by show w.heap.size≠w.heap.size+1+1;omega) _).cell,(World.cell?_setCell_far _ _ _ _ (by show w.heap.size+1+1≠b;omega)).trans mi⟩)
   clear hr3 hni kb hcs hi0 hi1 h13 hf3 ho3 ht3 hot3 M0 M2 mi hob
   go_wp2_with fail
   clear hc0
   refine tkS (S:=(fun w'=>(∀i,w'.cell? ⟨w.heap.size,i,none⟩=((dC d ⟨px,pxc,pp,ppc,pc,pcc,some ⟨b,o,none⟩,pic,pb,pbc⟩)[i]?:Option Value))∧w'.cell? ⟨b,o+k,none⟩=some (.int .i64 x))) (by (first|(with_reducible exact KA.out)|(with_reducible exact KB.out)|(with_reducible exact KC.out)|(with_reducible exact KD.out))) (fun hHeld=>?_)
   refine tkl [0,2,3,4,5,6,7] ?_
   iterate 7
    refine tW ?_
    try go_frame
   refine wpAnyH_ready (rs:=[1,8]) (by kernel_rfl) (by simp) (AllReadyH.cons (by simp only [List.getElem?_toArray,List.getElem?_cons_succ,List.getElem?_cons_zero];rfl) (fun K hK=>?_) (AllReadyH.cons (by simp only [List.getElem?_toArray,List.getElem?_cons_succ,List.getElem?_cons_zero];rfl) (fun K hK=>?_) AllReadyH.nil))
   ·
    go_simp
    try go_wp2_with fail
    refine hK.out _ _ (by (with_reducible exact KA.out)) (fun hHeld=>?_)
    clear hK K
    try go_frame
    refine rdy1 8 (fun K hK=>?_)
    go_simp
    try go_wp2_with fail
    refine hK.out _ _ (by (with_reducible exact KB.out)) (fun hHeld=>?_)
    clear hK K
    try go_frame
    refine rdy1 9 (fun K hK=>?_)
    refine Bd3 rfl (.tmp 27) (.tmp 34) 27 rfl _ _ _ u3 rfl rfl R3.out ?_
    refine hK.out _ _ (by (with_reducible exact KC.out)) (fun hHeld=>?_)
    clear hK K
    try go_frame
    refine tkl [10] (tW ?_)
    try go_frame
    refine rdy1 11 (fun K hK=>?_)
    go_simp
    try go_wp2_with fail
    refine hK.out _ _ (by (with_reducible exact KD.out)) (fun hHeld=>?_)
    clear hK K
    try go_frame
    refine tkD ?_
    go_wp2_with fail
    go_roundw
    case rel=>exact ⟨k+1,a2,c3,by omega,by go_num,RN.out⟩
    case measure=>simp [intOf];omega
   ·
    go_simp
    try go_wp2_with fail
    refine hK.out _ _ (by (with_reducible exact KB.out)) (fun hHeld=>?_)
    clear hK K
    try go_frame
    refine rdy1 1 (fun K hK=>?_)
    go_simp
    try go_wp2_with fail
    refine hK.out _ _ (by (with_reducible exact KB.out)) (fun hHeld=>?_)
    clear hK K
    try go_frame
    refine rdy1 9 (fun K hK=>?_)
    refine Bd3 rfl (.tmp 27) (.tmp 34) 27 rfl _ _ _ u3 rfl rfl R3.out ?_
    refine hK.out _ _ (by (with_reducible exact KC.out)) (fun hHeld=>?_)
    clear hK K
    try go_frame
    refine tkl [10] (tW ?_)
    try go_frame
    refine rdy1 11 (fun K hK=>?_)
    go_simp
    try go_wp2_with fail
    refine hK.out _ _ (by (with_reducible exact KD.out)) (fun hHeld=>?_)
    clear hK K
    try go_frame
    refine tkD ?_
    go_wp2_with fail
    go_roundw
    case rel=>exact ⟨k+1,a2,c3,by omega,by go_num,RN.out⟩
    case measure=>simp [intOf];omega
  ·have hke:k=d.items.length:=by omega
   subst hke
   have zb:=hni.blk ZZ2.out (by omega) (by omega)
   have hz:=zb.cell
   have hzf:=zb.frozen
   have hzl:=zb.lt
   clear hni kb
   go_wp2_with fail
   refine bodyPost_ret (v:=.agg #[.slice px d.exits.length pxc,.slice pp d.players.length ppc,.slice pc d.coins.length pcc,.slice pi d.items.length pic,.slice pb d.boxes.length pbc,.int .i64 d.room,.int .i64 d.player,.int .i64 d.box,.slice (some ⟨g1,0,none⟩) d.players.length c1,.slice (some ⟨g2,0,none⟩) d.coins.length c2,.slice a d.items.length c]) (by simp [results,results15,go_sem,hz]) rfl ?_
   refine Bf5 (p:=⟨px,pxc,pp,ppc,pc,pcc,pi,pic,pb,pbc⟩) (m:=V2.heap.size) H.out ?_ (by omega) ?_ (fun r hr=>O1.out.in_ hr) ?_ (fun r hr=>O2.out.in_ hr) ?_
   ·iterate 11 refine bs_1 ?_
    exact NN.out.below BB2.out (by omega) (by omega) (Nat.le_refl _)
   ·refine OwnR.less (n:=w.heap.size+3) ?_ (by omega)
    iterate 11 refine OwnR.set (q:=w.heap.size+1) ?_ (by omega) _ _
    exact O1.out.keep (fun b h1 h2=>NN.out.f b h2 (by omega))
   ·refine OwnR.less (n:=w.heap.size+3) ?_ (by omega)
    iterate 11 refine OwnR.set (q:=w.heap.size+1) ?_ (by omega) _ _
    exact O2.out.keep (fun b h1 h2=>NN.out.f b h2 (by omega))
   ·iterate 11 refine OwnR.set (q:=w.heap.size+1) ?_ (by omega) _ _
    exact Co2 (xs:=Bu d.items) (by have:=NN.out.o;rw [List.take_length] at this;simpa [Bu] using this) (by simp [Bu,maxLen];omega)
theorem Qy (d:Ds) (p:Dp) (w:World) (h:Ce w p d) (hm:mayD d=true):Calls prog 15 #[.agg (dC d p)] w fun e w'=>∃(x:Wd) (q:Wp),x=newW d∧e=.returned (.agg (wC x q))∧Ab w' q x∧Below w.heap.size w w'∧Jh w.heap.size w' p q x :=
 Cg0 d p.ex p.pl p.co p.it p.bo p.exc p.plc p.coc p.itc p.boc w h hm
theorem Ap6 (d:Ds) (p:Dp) (w:World) (h:Ce w p d) (hm:mayD d=true):Calls prog 15 #[.agg (dC d p)] w fun e w'=>∃(x:Wd) (q:Wp),x=newW d∧e=.returned (.agg (wC x q))∧Ab w' q x∧Below w.heap.size w w' :=
 (Qy d p w h hm).mono fun _ _ ⟨x,q,h1,h2,h3,h4,_⟩=>⟨x,q,h1,h2,h3,h4⟩
end
section
def Cc (n:Nat) (W:World) (p:Dp) (q:Wp) (x:Wd):Prop :=
 q.d=p∧∃m1 m2,n≤m1∧m1≤m2∧OwnR 1 3 inC n W q.at_ x.at_∧(∀r,q.at_=some r→r.block<m1)∧OwnR 1 3 inC m1 W q.co x.coins∧(∀r,q.co=some r→r.block<m2)∧OwnR 2 48 plC m2 W q.wh x.wher
theorem Cc.new {n:Nat} {W:World} {p:Dp} {q:Wp} {x:Wd} (h:Cc n W p q x):Jh n W p q x:=by
 obtain ⟨h0,m1,m2,h1,h2,ha,la,hc,lc,hw⟩:=h
 exact ⟨h0,m2,by omega,ha,fun r hr=>by have:=la r hr;omega,hc.less h1,lc,hw⟩
theorem Cc.call {n:Nat} {W W':World} {p:Dp} {q:Wp} {x:Wd} (h:Cc n W p q x) (hb:Below W.heap.size W W'):Cc n W' p q x:=by
 obtain ⟨h0,m1,m2,h1,h2,ha,la,hc,lc,hw⟩:=h
 exact ⟨h0,m1,m2,h1,h2,ha.call hb,la,hc.call hb,lc,hw.call hb⟩
theorem Cc.alloc {n:Nat} {W:World} {p:Dp} {q:Wp} {x:Wd} (h:Cc n W p q x) (o:Obj):Cc n (W.alloc o) p q x:=h.call (b_a _)
theorem Cc.set {n:Nat} {W:World} {p:Dp} {q:Wp} {x:Wd} (h:Cc n W p q x) {b:Nat} (hb:b<n) (i:Nat) (u:Value):Cc n (W.setCell ⟨b,i,none⟩ u) p q x:=by
 obtain ⟨h0,m1,m2,h1,h2,ha,la,hc,lc,hw⟩:=h
 exact ⟨h0,m1,m2,h1,h2,ha.set hb i u,la,hc.set (by omega) i u,lc,hw.set (by omega) i u⟩
theorem Cc.less {n m:Nat} {W:World} {p:Dp} {q:Wp} {x:Wd} (h:Cc n W p q x) (hm:m≤n):Cc m W p q x:=by
 obtain ⟨h0,m1,m2,h1,h2,ha,r⟩:=h
 exact ⟨h0,m1,m2,by omega,h2,ha.less hm,r⟩
theorem Cc.putAt {n:Nat} {W:World} {p:Dp} {q:Wp} {x:Wd} (h:Cc n W p q x) {k:Nat} (hk:k<x.at_.length):∃b,q.at_=some ⟨b,0,none⟩∧n≤b∧b<W.heap.size∧W.cell? ⟨b,k,none⟩=some (.int .i64 x.at_[k])∧(∀r,W.frozen? ⟨b,r,none⟩=false) ∧
 ∀v:Int,Cc n (W.setCell ⟨b,k,none⟩ (.int .i64 v)) p q ⟨x.d,x.at_.set k v,x.coins,x.wher⟩:=by
 obtain ⟨h0,m1,m2,h1,h2,ha,la,hc,lc,hw⟩:=h
 obtain ⟨b,hb,hn,hl,hcell,hf,hput⟩:=ha.put hk (j:=0) (by omega)
 have hlt:b<m1:=la _ hb
 refine ⟨b,hb,by omega,hl,by simpa [inC] using hcell 0 (by omega),hf,fun v=>⟨h0,m1,m2,h1,h2,?_,la,hc.far (fun r hr=>by have h5:=hc.from_ hr;omega) _ _,lc,hw.far (fun r hr=>by have h5:=hw.from_ hr;omega) _ _⟩⟩
 have:=hput (.int .i64 v) v rfl (fun r hr=>by obtain rfl:r=0:=by omega
                                              simp [inC])
 rw [hb]
 simpa using this
theorem Cc.putCo {n:Nat} {W:World} {p:Dp} {q:Wp} {x:Wd} (h:Cc n W p q x) {k:Nat} (hk:k<x.coins.length):∃b,q.co=some ⟨b,0,none⟩∧n≤b∧b<W.heap.size∧W.cell? ⟨b,k,none⟩=some (.int .i64 x.coins[k])∧(∀r,W.frozen? ⟨b,r,none⟩=false) ∧
 ∀v:Int,Cc n (W.setCell ⟨b,k,none⟩ (.int .i64 v)) p q ⟨x.d,x.at_,x.coins.set k v,x.wher⟩:=by
 obtain ⟨h0,m1,m2,h1,h2,ha,la,hc,lc,hw⟩:=h
 obtain ⟨b,hb,hn,hl,hcell,hf,hput⟩:=hc.put hk (j:=0) (by omega)
 have hlt:b<m2:=lc _ hb
 refine ⟨b,hb,by omega,hl,by simpa [inC] using hcell 0 (by omega),hf,fun v=>⟨h0,m1,m2,h1,h2,ha.far (fun r hr=>by have h5:=la r hr;omega) _ _,la,?_,lc,hw.far (fun r hr=>by have h5:=hw.from_ hr;omega) _ _⟩⟩
 have:=hput (.int .i64 v) v rfl (fun r hr=>by obtain rfl:r=0:=by omega
                                              simp [inC])
 rw [hb]
 simpa using this
theorem Bt1 {x:Wd} {p:Dp} {w W:World} {a1 a2 a3:Option Addr} {c1 c2 c3 m1 m:Nat} (hd:Ce w p x.d) (hb:Below w.heap.size w W) (hm1:w.heap.size≤m1) (hm:m1≤m) (h1:OwnR 1 3 inC w.heap.size W a1 x.at_) (l1:∀r,a1=some r→r.block<m1)
 (h2:OwnR 1 3 inC m1 W a2 x.coins) (l2:∀r,a2=some r→r.block<m) (h3:OwnR 2 48 plC m W a3 x.wher) :
 ∃q:Wp,Ending.returned (.agg (wC x ⟨p,a1,c1,a2,c2,a3,c3⟩))=.returned (.agg (wC x q))∧Ab W q x∧Below w.heap.size w W∧Cc w.heap.size W p q x:=by
 have hn:Cc w.heap.size W p ⟨p,a1,c1,a2,c2,a3,c3⟩ x:=⟨rfl,m1,m,hm1,hm,h1,l1,h2,l2,h3⟩
 exact ⟨⟨p,a1,c1,a2,c2,a3,c3⟩,rfl,hn.new.world hd hb,hb,hn⟩
theorem We {n m:Nat} {a b:World} (h:Below n a b) (e:n=m):Below m a b:=e ▸ h
theorem Iq (x:Wd) (p:Wp) (w:World) (h:Ab w p x) (hf:FewW x) :
 Calls prog 16 #[.agg (wC x p)] w fun e w'=>∃q:Wp,e=.returned (.agg (wC x q))∧Ab w' q x∧Below w.heap.size w w'∧Cc w.heap.size w' p.d q x:=by
 have H:=hid h
 have HF:=hid hf
 clear h hf
 have C0:=hid (Two.start 29 29 w (wC x p) zC)
 generalize hw0:(w.alloc (.cells (wC x p) 29)).alloc (.cells zC 29)=v0 at C0
 obtain ⟨g0,c0,u0,w1,hr0,hg0,hb0,hc0,hl0⟩:=Kh 23 3 1 8 (.int .i64 0) inC underlying23 Fj rfl (by decide) (by decide) Jl Py (cap:=p.atc) (xs:=x.at_) (w.heap.size+1+1) (Blk.newn v0 3 #[] (n:=w.heap.size+1+1) (by rw [←hw0];simp)) (Ar.alloc (Av.1 (H.out.below C0.out.b (Nat.le_refl _)).at_) _) HF.out.2.1
 have R0:=hid hr0
 have B0:=hid (show Below v0.heap.size v0 w1 from (b_a (.cells #[] 3)).trans (We hl0 (by rw [←hw0];simp)))
 have O0:=hid (show OwnR 1 3 inC (w.heap.size+2) w1 (some ⟨g0,0,none⟩) x.at_ from ⟨((Av.1 (H.out.below C0.out.b (Nat.le_refl _)).at_)).1,.inr ⟨g0,u0,rfl,Nat.le_trans (by omega) hg0,hb0,hc0⟩⟩)
 have D0:=hid (C0.out.call B0.out)
 have C1:=hid (show Two 29 29 w (w1.setCell ⟨w.heap.size,8,none⟩ (.slice (some ⟨g0,0,none⟩) x.at_.length c0)) (wC x ⟨p.d,some ⟨g0,0,none⟩,c0,p.co,p.coc,p.wh,p.whc⟩) zC from D0.out.set 8 _)
 have O0:=hid (O0.out.set (q:=w.heap.size) (by omega) 8 (.slice (some ⟨g0,0,none⟩) x.at_.length c0))
 have L0:=hid hb0.lt
 clear hr0 hg0 hb0 hc0 hl0
 generalize hw1:w1.setCell ⟨w.heap.size,8,none⟩ (.slice (some ⟨g0,0,none⟩) x.at_.length c0)=v1 at *
 obtain ⟨g1,c1,u1,w2,hr1,hg1,hb1,hc1,hl1⟩:=Kh 23 3 1 8 (.int .i64 0) inC underlying23 Fj rfl (by decide) (by decide) Jl Py (cap:=p.coc) (xs:=x.coins) w1.heap.size (Blk.newn v1 3 #[] (n:=w1.heap.size) (by rw [←hw1];simp [World.setCell])) (Ar.alloc (Av.1 (H.out.below C1.out.b (Nat.le_refl _)).co) _) HF.out.2.2.1
 have R1:=hid hr1
 have B1:=hid (show Below v1.heap.size v1 w2 from (b_a (.cells #[] 3)).trans (We hl1 (by rw [←hw1];simp [World.setCell])))
 have O1:=hid (show OwnR 1 3 inC w1.heap.size w2 (some ⟨g1,0,none⟩) x.coins from ⟨((Av.1 (H.out.below C1.out.b (Nat.le_refl _)).co)).1,.inr ⟨g1,u1,rfl,hg1,hb1,hc1⟩⟩)
 have O0:=hid (O0.out.call B1.out)
 have D1:=hid (C1.out.call B1.out)
 have C2:=hid (show Two 29 29 w (w2.setCell ⟨w.heap.size,9,none⟩ (.slice (some ⟨g1,0,none⟩) x.coins.length c1)) (wC x ⟨p.d,some ⟨g0,0,none⟩,c0,some ⟨g1,0,none⟩,c1,p.wh,p.whc⟩) zC from D1.out.set 9 _)
 have O0:=hid (O0.out.set (q:=w.heap.size) (by omega) 9 (.slice (some ⟨g1,0,none⟩) x.coins.length c1))
 have O1:=hid (O1.out.set (q:=w.heap.size) (by have:=D0.out.size;omega) 9 (.slice (some ⟨g1,0,none⟩) x.coins.length c1))
 have L1:=hid hb1.lt
 have L2:=hid (show w1.heap.size≤w2.heap.size by have:=B1.out.size;rw [←hw1] at this;simpa [World.setCell] using this)
 clear hr1 hg1 hb1 hc1 hl1
 generalize hw2:w2.setCell ⟨w.heap.size,9,none⟩ (.slice (some ⟨g1,0,none⟩) x.coins.length c1)=v2 at *
 obtain ⟨g2,c2,u2,w3,hr2,hg2,hb2,hc2,hl2⟩:=Kh 27 48 2 16 (.agg #[.int .i64 0,.int .i64 0]) plC underlying27 Qh rfl (by decide) (by decide) Ni Zk (cap:=p.whc) (xs:=x.wher) w2.heap.size (Blk.newn v2 48 #[] (n:=w2.heap.size) (by rw [←hw2];simp [World.setCell])) (Ar.alloc (H.out.below C2.out.b (Nat.le_refl _)).wh _) HF.out.2.2.2
 have R2:=hid hr2
 have B2:=hid (show Below v2.heap.size v2 w3 from (b_a (.cells #[] 48)).trans (We hl2 (by rw [←hw2];simp [World.setCell])))
 have O2:=hid (show OwnR 2 48 plC w2.heap.size w3 (some ⟨g2,0,none⟩) x.wher from ⟨((H.out.below C2.out.b (Nat.le_refl _)).wh).1,.inr ⟨g2,u2,rfl,hg2,hb2,hc2⟩⟩)
 have L3:=hid D1.out.size
 have O0:=hid (O0.out.call B2.out)
 have O1:=hid (O1.out.call B2.out)
 have D2:=hid (C2.out.call B2.out)
 have C3:=hid (show Two 29 29 w (w3.setCell ⟨w.heap.size,10,none⟩ (.slice (some ⟨g2,0,none⟩) x.wher.length c2)) (wC x ⟨p.d,some ⟨g0,0,none⟩,c0,some ⟨g1,0,none⟩,c1,some ⟨g2,0,none⟩,c2⟩) zC from D2.out.set 10 _)
 have O0:=hid (O0.out.set (q:=w.heap.size) (by omega) 10 (.slice (some ⟨g2,0,none⟩) x.wher.length c2))
 have O1:=hid (O1.out.set (q:=w.heap.size) (by have:=D0.out.size;omega) 10 (.slice (some ⟨g2,0,none⟩) x.wher.length c2))
 have O2:=hid (O2.out.set (q:=w.heap.size) (by have:=L3.out;omega) 10 (.slice (some ⟨g2,0,none⟩) x.wher.length c2))
 clear hr2 hg2 hb2 hc2 hl2
 have HW1:=hid hw1
 have HW2:=hid hw2
 clear hw1 hw2
 subst hw0
 have k1:=D0.out.a.cell
 have f1:=D0.out.a.frozen
 have k2:=D1.out.a.cell
 have f2:=D1.out.a.frozen
 have k3:=D2.out.a.cell
 have f3:=D2.out.a.frozen
 have hc2:=D2.out.r.cell
 have hz2:=D2.out.r.frozen
 have hs2:=D2.out.size
 have ls1:w.heap.size<w1.heap.size:=D0.out.a.lt
 have ls2:w.heap.size<w2.heap.size:=D1.out.a.lt
 have ls3:w.heap.size<w3.heap.size:=D2.out.a.lt
 have ls4:w.heap.size+1<w3.heap.size:=D2.out.r.lt
 have hWC:=@wC.eq_1
 have hZC:=@zC.eq_1
 go_enter func16,ntmps16
 go_wp2_with (at_builtin;first|(refine Bb rfl (.tmp 3) (.tmp 5) 23 rfl _ _ _ w1 rfl rfl R0.out ?_;clear R0)|(rw [HW1.out];refine Bb rfl (.tmp 8) (.tmp 10) 23 rfl _ _ _ w2 rfl rfl R1.out ?_;clear R1)|(rw [HW2.out];refine Bb rfl (.tmp 13) (.tmp 15) 27 rfl _ _ _ w3 rfl rfl R2.out ?_))
 refine bodyPost_ret (v:=.agg (wC x ⟨p.d,some ⟨g0,0,none⟩,c0,some ⟨g1,0,none⟩,c1,some ⟨g2,0,none⟩,c2⟩)) (by simp [results,results16,go_sem,hc2]) rfl ?_
 refine Bt1 (m1:=w1.heap.size) (m:=w2.heap.size) H.out.d ?_ (by have:=D0.out.size;omega) L2.out ?_ (fun r hr=>by cases hr;exact L0.out) ?_ (fun r hr=>by cases hr;exact L1.out) ?_
 ·iterate 11 refine bs_1 ?_
  exact C3.out.b
 ·refine OwnR.less (n:=w.heap.size+2) ?_ (by omega)
  iterate 11 refine OwnR.set (q:=w.heap.size+1) ?_ (by omega) _ _
  exact O0.out
 ·iterate 11 refine OwnR.set (q:=w.heap.size+1) ?_ (by have:=D0.out.size;omega) _ _
  exact O1.out
 ·iterate 11 refine OwnR.set (q:=w.heap.size+1) ?_ (by have:=L3.out;omega) _ _
  exact O2.out
theorem Aq3 (x:Wd) (p:Wp) (w:World) (h:Ab w p x) (hf:FewW x) :
 Calls prog 16 #[.agg (wC x p)] w fun e w'=>∃q:Wp,e=.returned (.agg (wC x q))∧Ab w' q x∧Below w.heap.size w w'∧Jh w.heap.size w' p.d q x :=
 (Iq x p w h hf).mono fun _ _ ⟨q,h1,h2,h3,h4⟩=>⟨q,h1,h2,h3,h4.new⟩
theorem Ak8 (x:Wd) (p:Wp) (w:World) (h:Ab w p x) (hf:FewW x) :
 Calls prog 16 #[.agg (wC x p)] w fun e w'=>∃q:Wp,e=.returned (.agg (wC x q))∧Ab w' q x∧Below w.heap.size w w' :=
 (Aq3 x p w h hf).mono fun _ _ ⟨q,h1,h2,h3,_⟩=>⟨q,h1,h2,h3⟩
end
end Go.Proofs.YtnhkojpbbdaedaaGreat
