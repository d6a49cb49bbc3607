/- line: Put, of whatever command. -/
import Derived.Test.YtaeclpjofclbeaaDoorGCmdR
import Derived.Test.YtaeclpjofclbeaaDoorGLineT
namespace Go.Proofs.YtaeclpjofclbeaaDoor
open Go.ChangeShapes Go.WideShapes Go.ChangeAt Go.RowKit Go.Proofs.Tryd
set_option linter.unusedVariables false
section
open Go.RowKit Go
def Aa2 (w W0:World) (lo B:Nat) (c:Cm) (ga wa:Option Addr) (gc wc:Nat) (u:Value) (k:Nat) (wr:World):Prop :=
 (Blk wr B 25 (cC c ga gc wa wc)∧some B≠u.ownBlock)∧(Below w.heap.size w wr∧w.heap.size+1≤wr.heap.size)∧(Stay lo W0 wr∧W0.heap.size≤wr.heap.size∧∀q,lo≤q→q<W0.heap.size→some q≠u.ownBlock) ∧
   (Ae wr ga c.gives∧Off ga c.gives u)∧(Ae wr wa c.wants∧Off wa c.wants u)∧wr.ownsRow (w.heap.size+1) 9 1 u (putK c (Be c.kind) k).length ((putK c (Be c.kind) k).map str)
section
variable {w W0 wr:World} {lo B:Nat} {c:Cm} {ga wa:Option Addr} {gc wc:Nat} {u:Value} {k:Nat}
theorem Aa2.alloc (h:Aa2 w W0 lo B c ga wa gc wc u k wr) (o:Obj):Aa2 w W0 lo B c ga wa gc wc u k (wr.alloc o):=by
 obtain ⟨⟨h1,h2⟩,⟨h3,h4⟩,⟨h5,h6,h7⟩,⟨h8,h9⟩,⟨h10,h11⟩,h12⟩:=h
 have hs:(wr.alloc o).heap.size=wr.heap.size+1:=by simp
 exact ⟨⟨h1.alloc o,h2⟩,⟨h3.alloc (by omega) o,by omega⟩,⟨h5.trans h6 (Stay.below (b_a o)),by omega,h7⟩,⟨h8.alloc o,h9⟩,⟨h10.alloc o,h11⟩,h12.alloc o⟩
theorem Aa2.step (h:Aa2 w W0 lo B c ga wa gc wc u k wr) (hk:k<(Be c.kind).length) {v':Value} {W1:World} (hr:W1.ownsRow (w.heap.size+1) 9 1 v' (putK c (Be c.kind) k++putP c (Be c.kind)[k]).length ((putK c (Be c.kind) k++putP c (Be c.kind)[k]).map str))
 (hg:wr.grownBy W1 u.ownBlock) (hm:Zo wr u v'):Aa2 w W0 lo B c ga wa gc wc v' (k+1) W1:=by
 obtain ⟨⟨h1,h2⟩,⟨h3,h4⟩,⟨h5,h6,h7⟩,⟨h8,h9⟩,⟨h10,h11⟩,h12⟩:=h
 have hb:=Bj8 h12 h4 hg
 refine ⟨⟨h1.grow hg h2,?_⟩,⟨h3.trans (hb.mono (by omega)),Nat.le_trans h4 hg.size⟩,⟨fun q a b=>(hg.block q (by omega) (h7 q a b)).trans (h5 q a b),Nat.le_trans h6 hg.size,fun q a b=>?_⟩,⟨h8.grown hg h9,h9.moves h8 hm⟩,⟨h10.grown hg h11,h11.moves h10 hm⟩,?_⟩
 ·have:=h1.lt
  rcases hm with hm|⟨g,hm,hg2⟩
  ·rw [hm];exact h2
  ·rw [hm];intro e;have:=Option.some.inj e;omega
 ·rcases hm with hm|⟨g,hm,hg2⟩
  ·rw [hm];exact h7 q a b
  ·rw [hm];intro e;have:=Option.some.inj e;omega
 ·rw [Ga6 c _ k hk];exact hr
theorem Aa2.piece (h:Aa2 w W0 lo B c ga wa gc wc u k wr) (hm:mayB c=true) (ht:Tabs w) (hk:k<(Be c.kind).length) {pv tv:Value} (hp:Nu W0 lo B pv tv (Be c.kind)[k]) :
 ∃F fs,pv=.func (.func F) #[] fs∧(∀(args:Array Value) (w:World),(callFunc F args).run prog w=.ok (.enter F args) w)∧Calls prog F (#[u]++fs) wr (Al7 wr (w.heap.size+1) u (putK c (Be c.kind) k++putP c (Be c.kind)[k])):=by
 obtain ⟨⟨h1,h2⟩,⟨h3,h4⟩,⟨h5,h6,h7⟩,⟨h8,h9⟩,⟨h10,h11⟩,h12⟩:=h
 exact Ds3 hp h5 h7 h1 h2 (fun W' hb=>ht.below (h3.trans (hb.mono (by omega))) lr0) (Fp3 hm _ (List.getElem_mem hk)) h8 h9 h10 h11 h12 h4 (by have:=Ek3 hm k;omega)
theorem Aa2.tabs (h:Aa2 w W0 lo B c ga wa gc wc u k wr) (ht:Tabs w):∀W',Below (w.heap.size+1) wr W'→Tabs W':=fun W' hb=>ht.below (h.2.1.1.trans (hb.mono (by omega))) lr0
end
def Sg (w:World) (c:Cm) (ga wa:Option Addr) (gc wc:Nat) (wr:World):Prop:=Below w.heap.size w wr∧w.heap.size+1≤wr.heap.size∧Blk wr w.heap.size 25 (cC c ga gc wa wc)
theorem Gd9 (x y:Value) (W:World):(Instr.field 84 (.agg #[x,y]) 0).run prog W=.ok x W:=by
 simp [Instr.field,run_underlying underlying84,Tryd.isAgg81,asAgg,Go.part,Result.andThen]
section
variable {w wr w1 w2 w3 w4:World} {c:Cm} {ga wa:Option Addr} {gc wc:Nat}
theorem Sg.new (w:World) (c:Cm) (ga wa:Option Addr) (gc wc:Nat):Sg w c ga wa gc wc (w.alloc (.cells (cC c ga gc wa wc) 25)) :=
 ⟨b_a _,by simp,Blk.new _ _ _⟩
theorem Sg.call (h:Sg w c ga wa gc wc wr) (hb:Below wr.heap.size wr w1):Sg w c ga wa gc wc w1:=⟨bl h.1 hb,Nat.le_trans h.2.1 hb.size,h.2.2.call hb⟩
theorem Ga2 (hm:mayB c=true) (H1:Ae w ga c.gives) (H2:Ae w wa c.wants) (ht:Tabs w) (h:Sg w c ga wa gc wc w1) {pv tv:Value} (hp:Nu w2 w1.heap.size w.heap.size pv tv (.one .name .kind)) (hb:Below w1.heap.size w1 w2) :
 ∃F fs,pv=.func (.func F) #[] fs∧(∀(args:Array Value) (w:World),(callFunc F args).run prog w=.ok (.enter F args) w)∧Calls prog F (#[.slice none 0 0]++fs) w2 (Al7 w2 (w.heap.size+1) (.slice none 0 0) [Aw c.kind]):=by
 have h2:=h.call hb
 have:=Ds3 (W0:=w2) (W:=w2) (base:=w.heap.size+1) (v:=.slice none 0 0) (ws:=[]) hp (Stay.refl _ _) (fun _ _ _=>by simp [Value.ownBlock]) h2.2.2 (by simp [Value.ownBlock]) (fun W' hb'=>ht.below (h2.1.trans (hb'.mono (by omega))) lr0) rfl
  (H1.below h2.1 lr0) (.inr fun _ _=>by simp [Value.ownBlock]) (H2.below h2.1 lr0) (.inr fun _ _=>by simp [Value.ownBlock]) (World.ownsRow_nil _ _ _ _) h2.2.1 (by simp)
 exact this
theorem Ga4 (H1:Ae w ga c.gives) (H2:Ae w wa c.wants) (h:Sg w c ga wa gc wc w2) {v1:Value} (hr:w3.ownsRow (w.heap.size+1) 9 1 v1 [Aw c.kind].length ([Aw c.kind].map str)) (hg:w2.grownBy w3 (Value.slice none 0 0).ownBlock) (hm:Zo w2 (.slice none 0 0) v1)
 (hb:Below w3.drew.heap.size w3.drew w4):Aa2 w w4 w3.drew.heap.size w.heap.size c ga wa gc wc v1 0 w4:=by
 have hb23:Below w2.heap.size w2 w3:=⟨hg.os,hg.tape,hg.output,hg.size,fun k hk=>hg.block k hk (by simp [Value.ownBlock])⟩
 have h3:=h.call hb23
 have hb34:Below w3.heap.size w3 w4:=⟨hb.os,hb.tape,hb.output,hb.size,hb.block⟩
 have h4:=h3.call hb34
 have hr4:=Ba3 hr hb34
 have far:∀q,v1.ownBlock=some q→w2.heap.size≤q∧q<w3.heap.size:=fun q e=>by
  rcases hm with hm|⟨g,hm,hg2⟩
  ·rw [e] at hm;simp [Value.ownBlock] at hm
  ·rw [e] at hm;obtain rfl:=Option.some.inj hm;exact ⟨hg2,(hr.lt q e).2⟩
 have off:∀(a:Option Addr) (xs:List Int),Ae w a xs→Off a xs v1:=fun a xs hI=>by
  rcases hI.2 with h|⟨b,o,rfl,hb,_⟩
  ·exact .inl h
  ·refine .inr fun p hp e=>?_
   obtain rfl:(⟨b,o,none⟩:Addr)=p:=Option.some.inj hp
   have:=(far b e.symm).1
   have:=h.2.1
   omega
 refine ⟨⟨h4.2.2,fun e=>?_⟩,⟨h4.1,h4.2.1⟩,⟨Stay.refl _ _,Nat.le_refl _,fun q a b e=>?_⟩,⟨H1.below h4.1 lr0,off _ _ H1⟩,⟨H2.below h4.1 lr0,off _ _ H2⟩,by simpa [putK] using hr4⟩
 ·have:=(far _ e.symm).1;have:=h.2.1;omega
 ·have:=(far _ e.symm).2
  have:w3.drew.heap.size=w3.heap.size:=rfl
  omega
theorem Hd6 (hm:mayB c=true) {W0:World} {lo B:Nat} {u:Value} (h:Aa2 w W0 lo B c ga wa gc wc u (Be c.kind).length wr):Strs wr u (wordsOf c)∧Below w.heap.size w wr:=by
 obtain ⟨-,⟨h3,-⟩,-,-,-,h12⟩:=h
 rw [Ek4] at h12
 exact ⟨Zi h12 (by have:=(Xo hm).2;unfold maxLen;omega),h3⟩
end
def Oz (c:Cm):Value:=.tuple #[str (if mayB c then glue (wordsOf c) else []),.int .i64 (if mayB c then 0 else 2)]
end
section
theorem Hj6 (n:Nat) (h1:1≤n) (h:n≤10):(#[.string ⟨#[]⟩,.string ⟨#[109,111,118,101]⟩,.string ⟨#[112,117,115,104]⟩,.string ⟨#[103,101,116]⟩,.string ⟨#[100,114,111,112]⟩,.string ⟨#[112,117,116]⟩,.string ⟨#[116,97,107,101]⟩,.string ⟨#[103,105,118,101]⟩,.string ⟨#[116,114,97,100,101]⟩,.string ⟨#[108,111,111,107]⟩,.string ⟨#[111,119,110]⟩]:Array Value)[n]?=some (.string ⟨(kindNames.getD (n-1) []).toArray⟩):=by
 match n,h1,h with
 | 1,_,_|2,_,_|3,_,_|4,_,_|5,_,_|6,_,_|7,_,_|8,_,_|9,_,_|10,_,_=>rfl
end
section
open Go.RowKit Go
def Tw (w:World) (c:Cm) (ga wa:Option Addr) (gc wc:Nat) (u:Value) (ws:List (List UInt8)) (wr:World):Prop :=
 Sg w c ga wa gc wc wr∧wr.ownsRow (w.heap.size+1) 9 1 u ws.length (ws.map str)
section
variable {w wr w1:World} {c:Cm} {ga wa:Option Addr} {gc wc:Nat} {u:Value} {ws:List (List UInt8)}
theorem Tw.cells (h:Tw w c ga wa gc wc u ws wr):∀i,wr.cell? ⟨w.heap.size,i,none⟩=((cC c ga gc wa wc)[i]?:Option Value):=h.1.2.2.cell
theorem Tw.call (h:Tw w c ga wa gc wc u ws wr) (hb:Below wr.heap.size wr w1):Tw w c ga wa gc wc u ws w1:=⟨h.1.call hb,Ba3 h.2 hb⟩
theorem Tw.alloc (h:Tw w c ga wa gc wc u ws wr) (o:Obj):Tw w c ga wa gc wc u ws (wr.alloc o):=h.call (b_a _)
theorem Tw.drew (h:Tw w c ga wa gc wc u ws wr):Tw w c ga wa gc wc u ws wr.drew:=⟨⟨⟨h.1.1.os,h.1.1.tape,h.1.1.output,h.1.1.size,h.1.1.block⟩,h.1.2⟩,h.2⟩
theorem Lv (h:Tw w c ga wa gc wc u ws wr) (xs:List (List UInt8)) (hl:ws.length+xs.length≤1000000) (cs:Array Value) (hcs:cs=(xs.map str).toArray) (n:Nat) (hn:n=xs.length) :
 ∃v' W',(Builtin.append_ #[22,22] 22 #[u,.slice (some ⟨wr.heap.size,0,none⟩) n n]).run prog (wr.alloc (.cells cs 9))=.ok v' W'∧Tw w c ga wa gc wc v' (ws++xs) W':=by
 subst hcs hn
 have hA:=h.alloc (.cells (xs.map str).toArray 9)
 have hS:Strs (wr.alloc (.cells (xs.map str).toArray 9)) (.slice (some ⟨wr.heap.size,0,none⟩) xs.length xs.length) xs:=by
  refine ⟨_,_,rfl,by unfold maxLen;omega,.inr ⟨wr.heap.size,0,rfl,by simp,fun i hi=>?_⟩⟩
  rw [Nat.zero_add,World.cell?_alloc_at _ _ _ _ rfl]
  simp [hi]
 obtain ⟨v',W',hr,h1,h2⟩:=Ah8 22 hA.2 hS hl hA.1.2.1
 have hb:=Bj8 hA.2 hA.1.2.1 h2
 refine ⟨v',W',hr,⟨hA.1.1.trans (hb.mono (by omega)),Nat.le_trans hA.1.2.1 h2.size,hA.1.2.2.below hb (by omega)⟩,by simpa using h1⟩
theorem Rt (h:Sg w c ga wa gc wc wr) (x:List UInt8):Tw w c ga wa gc wc (.slice (some ⟨wr.heap.size,0,none⟩) 1 1) [x] (wr.alloc (.cells #[.string ⟨x.toArray⟩] 9)) :=
 ⟨h.call (b_a _),rfl,.inr ⟨wr.heap.size,1,#[str x],rfl,h.2.1,by show (wr.heap.push _)[wr.heap.size]?=some _;simp [str],Nat.le_refl _,by unfold maxLen;omega,rfl,rfl⟩⟩
theorem Tt (h:Tw w c ga wa gc wc u ws wr) (hl:ws.length≤1000):Jk ws w (.returned u) wr:=⟨u,rfl,Zi h.2 (by unfold maxLen;omega),h.1.1⟩
end
end
section
open Go.RowKit Go
end
section
def latN (ws:List (List UInt8)) (i:Int):Int:=if 0≤i∧i<ws.length then (numN (ws.getD i.toNat []):Int) else 0
def Zc (ws:List (List UInt8)) (i:Nat):Int:=if i<ws.length then dirN (ws.getD i []) else 0
def Xa (x:List UInt8):Bool:=decide (¬x=Dc)
def Ew (ws:List (List UInt8)) (i:Nat):List (List UInt8):=(ws.drop i).takeWhile Xa
def Us (l:List (List UInt8)):List Int:=l.map fun x=>(numN x:Int)
def i1 (ws:List (List UInt8)):Nat:=3+(Ew ws 3).length
def i2 (ws:List (List UInt8)):Nat:=i1 ws+3+(Ew ws (i1 ws+3)).length
def Ri (k:Int) (ws:List (List UInt8)):Cm :=
 if k=1 then { Dh with kind:=1,dir:=Zc ws 1 } else
 if k=2 then { Dh with kind:=2,who:=latN ws 1,dir:=Zc ws 2 } else
 if k=3 then { Dh with kind:=3,item:=latN ws 1 } else
 if k=4 then { Dh with kind:=4,item:=latN ws 1 } else
 if k=5 then { Dh with kind:=5,item:=latN ws 1,box:=latN ws 3 } else
 if k=6 then { Dh with kind:=6,item:=latN ws 1,box:=latN ws 3 } else
 if k=7 then { Dh with kind:=7,item:=latN ws 1,who:=latN ws 3 } else
 if k=8 then { Dh with kind:=8,who:=latN ws 1,gives:=Us (Ew ws 3),pay:=latN ws (i1 ws+1:Nat),wants:=Us (Ew ws (i1 ws+3)),fee:=latN ws (i2 ws+1:Nat) } else { Dh with kind:=k }
def Kt (ws:List (List UInt8)):Cm:=Ri (Ct (ws.getD 0 [])) ws
theorem Ef0 {n:Int} (h:okN n=true):Xa (wd n)=true:=by
 unfold Xa
 rw [decide_eq_true_eq]
 intro e
 have:=(Rm h).1
 rw [e,Df4] at this;cases this
theorem Cx8 {l:List Int} (h:areB l=true) (r:List (List UInt8)):(l.map wd++Dc :: r).takeWhile Xa=l.map wd:=by
 induction l with
 | nil=>simp [Xa]
 | cons n l ih =>
   simp only [areB,List.all_cons,Bool.and_eq_true] at h
   rw [List.map_cons,List.cons_append,List.takeWhile_cons,if_pos (Ef0 h.1),ih h.2]
theorem Ds7 {l:List Int} (h:areB l=true):Us (l.map wd)=l:=by
 induction l with
 | nil=>rfl
 | cons n l ih =>
   simp only [areB,List.all_cons,Bool.and_eq_true] at h
   show (numN (wd n):Int) :: Us (l.map wd)=_
   rw [(Rm h.1).2,ih h.2]
theorem Bs8 {ws:List (List UInt8)} {i:Nat} {x:List UInt8} (h:ws[i]?=some x):latN ws (i:Int)=(numN x:Int):=by
 obtain ⟨hi,e⟩:=List.getElem?_eq_some_iff.1 h
 unfold latN
 rw [if_pos (by omega)]
 simp [List.getD,h]
theorem Ep3 {c:Cm} (h:mayB c=true):Kt (wordsOf c)=c:=by
 obtain ⟨hk,h2,h3,h4,h5,h6,h7,h8,h9,h10,-,-⟩:=Oa h
 clear h
 obtain ⟨n1,n2⟩:=Ai3 hk
 obtain ⟨d1,d2⟩:=Ef2 h2
 obtain ⟨j1,j2⟩:=Rm h3
 obtain ⟨b1,b2⟩:=Rm h4
 obtain ⟨w1,w2⟩:=Rm h5
 obtain ⟨p1,p2⟩:=Rm h6
 obtain ⟨f1,f2⟩:=Rm h7
 obtain ⟨k,a2,a3,a4,a5,a6,a7,a8,a9⟩:=c
 simp only at *
 have hg:Kt (wordsOf ⟨k,a2,a3,a4,a5,a6,a7,a8,a9⟩)=Ri k (wordsOf ⟨k,a2,a3,a4,a5,a6,a7,a8,a9⟩):=by
  unfold Kt
  rw [show (wordsOf ⟨k,a2,a3,a4,a5,a6,a7,a8,a9⟩).getD 0 []=Aw k from rfl,n2]
 rw [hg]
 clear hg
 rcases Pj hk with rfl|rfl|rfl|rfl|rfl|rfl|rfl|rfl|rfl|rfl
 all_goals
  simp only [ownC,keep,Nf,Cm.mk.injEq] at h10
  simp at h10
 ·simp [Ri,wordsOf,Be,putP,getF,Dh,Kd.word,Zc, *]
 ·simp [Ri,wordsOf,Be,putP,getF,Dh,Kd.word,Zc,latN, *]
 ·simp [Ri,wordsOf,Be,putP,getF,Dh,Kd.word,latN, *]
 ·simp [Ri,wordsOf,Be,putP,getF,Dh,Kd.word,latN, *]
 ·simp [Ri,wordsOf,Be,putP,getF,Dh,Kd.word,latN, *]
 ·simp [Ri,wordsOf,Be,putP,getF,Dh,Kd.word,latN, *]
 ·simp [Ri,wordsOf,Be,putP,getF,Dh,Kd.word,latN, *]
 ·obtain ⟨rfl,rfl,rfl⟩:=h10
  have ew:wordsOf ⟨8,0,0,0,a5,a6,a7,a8,a9⟩=[Aw 8,wd a5,Lg]++(a6.map wd++Dc :: ([wd a7,sFor]++(a8.map wd++Dc :: [wd a9]))):=by
   simp [wordsOf,Be,putP,getF,getL,Kd.word]
  rw [ew]
  have s1:Ew ([Aw 8,wd a5,Lg]++(a6.map wd++Dc :: ([wd a7,sFor]++(a8.map wd++Dc :: [wd a9])))) 3=a6.map wd:=by
   unfold Ew
   rw [show ([Aw 8,wd a5,Lg]++(a6.map wd++Dc :: ([wd a7,sFor]++(a8.map wd++Dc :: [wd a9])))).drop 3=a6.map wd++Dc :: ([wd a7,sFor]++(a8.map wd++Dc :: [wd a9])) from rfl]
   exact Cx8 h8 _
  have e1:i1 ([Aw 8,wd a5,Lg]++(a6.map wd++Dc :: ([wd a7,sFor]++(a8.map wd++Dc :: [wd a9]))))=3+a6.length:=by unfold i1;rw [s1,List.length_map]
  have q1:([Aw 8,wd a5,Lg]++(a6.map wd++Dc :: ([wd a7,sFor]++(a8.map wd++Dc :: [wd a9]))))[3+a6.length+1]?=some (wd a7):=by
   rw [List.getElem?_append_right (by simp;omega),List.getElem?_append_right (by simp;omega)]
   simp
   rw [show 3+a6.length-2-a6.length=1 by omega];rfl
  have dr:([Aw 8,wd a5,Lg]++(a6.map wd++Dc :: ([wd a7,sFor]++(a8.map wd++Dc :: [wd a9])))).drop (3+a6.length+3)=a8.map wd++Dc :: [wd a9]:=by
   rw [show [Aw 8,wd a5,Lg]++(a6.map wd++Dc :: ([wd a7,sFor]++(a8.map wd++Dc :: [wd a9])))=([Aw 8,wd a5,Lg]++a6.map wd++[Dc,wd a7,sFor])++(a8.map wd++Dc :: [wd a9]) by simp]
   exact List.drop_left' (by simp;omega)
  have s2:Ew ([Aw 8,wd a5,Lg]++(a6.map wd++Dc :: ([wd a7,sFor]++(a8.map wd++Dc :: [wd a9])))) (3+a6.length+3)=a8.map wd:=by
   unfold Ew;rw [dr];exact Cx8 h9 _
  have e2:i2 ([Aw 8,wd a5,Lg]++(a6.map wd++Dc :: ([wd a7,sFor]++(a8.map wd++Dc :: [wd a9]))))=3+a6.length+3+a8.length:=by unfold i2;rw [e1,s2,List.length_map]
  have q2:([Aw 8,wd a5,Lg]++(a6.map wd++Dc :: ([wd a7,sFor]++(a8.map wd++Dc :: [wd a9]))))[3+a6.length+3+a8.length+1]?=some (wd a9):=by
   rw [show [Aw 8,wd a5,Lg]++(a6.map wd++Dc :: ([wd a7,sFor]++(a8.map wd++Dc :: [wd a9])))=([Aw 8,wd a5,Lg]++a6.map wd++[Dc,wd a7,sFor]++a8.map wd++[Dc])++[wd a9] by simp]
   rw [List.getElem?_append_right (by simp;omega)]
   rw [show 3+a6.length+3+a8.length+1-([Aw 8,wd a5,Lg]++a6.map wd++[Dc,wd a7,sFor]++a8.map wd++[Dc]).length=0 by simp;omega];rfl
  have q0:([Aw 8,wd a5,Lg]++(a6.map wd++Dc :: ([wd a7,sFor]++(a8.map wd++Dc :: [wd a9]))))[1]?=some (wd a5):=rfl
  have r0:=Bs8 q0
  have r1:=Bs8 q1
  have r2:=Bs8 q2
  generalize [Aw 8,wd a5,Lg]++(a6.map wd++Dc :: ([wd a7,sFor]++(a8.map wd++Dc :: [wd a9])))=W at *
  show (⟨8,0,0,0,latN W 1,Us (Ew W 3),latN W (i1 W+1:Nat),Us (Ew W (i1 W+3)),latN W (i2 W+1:Nat)⟩:Cm)=_
  rw [e1,e2,s1,s2,Ds7 h8,Ds7 h9]
  rw [show latN W 1=a5 from r0.trans w2,r1,r2,p2,f2]
 ·simp [Ri,Dh, *]
 ·simp [Ri,Dh, *]
def refB (ws:List (List UInt8)):Bool:=mayB (Kt ws)&&decide (wordsOf (Kt ws)=ws)
theorem Db3 (ws:List (List UInt8)):refB ws=La ws∧(if refB ws then Kt ws else Dh)=Ng ws:=by
 have e:refB ws=La ws:=by
  rw [Bool.eq_iff_iff,Gv6]
  constructor
  ·intro h
   simp only [refB,Bool.and_eq_true,decide_eq_true_eq] at h
   exact ⟨_,h.1,h.2⟩
  ·rintro ⟨c,h1,rfl⟩
   simp [refB,Ep3 h1,h1]
 refine ⟨e,?_⟩
 rw [e]
 cases h:La ws
 ·unfold Ng;rw [h];rfl
 ·obtain ⟨h1,h2⟩:=Zz h
  have:=Ep3 h1
  rw [h2] at this
  exact this
end
section
open Go.RowKit Go
end
section
open Go.RowKit Go
def GetG (w:World) (C:Nat) (c:Cm) (ga:Option Addr) (gc:Nat) (wa:Option Addr) (wc:Nat) (W:World):Prop :=
 (Below w.heap.size w W∧w.heap.size+1≤W.heap.size∧Blk W w.heap.size 25 Bp)∧w.heap.size<C∧TSt W C c ga gc wa wc
def GetW (w W:World):Prop:=Below w.heap.size w W∧w.heap.size+1≤W.heap.size∧Blk W w.heap.size 25 Bp
section
variable {w w1 W W':World} {C:Nat} {c:Cm} {ga wa:Option Addr} {gc wc:Nat} {ws:List (List UInt8)}
theorem GetW.start (w:World):GetW w (w.alloc (.cells Bp 25)):=⟨b_a _,by simp,Blk.new _ _ _⟩
theorem GetW.below (h:GetW w W) (hb:Below W.heap.size W W'):GetW w W':=⟨bl h.1 hb,Nat.le_trans h.2.1 hb.size,h.2.2.call hb⟩
theorem GetG.alloc (h:GetW w w1) (hg:c.gives=[]) (hw:c.wants=[]) {cs:Array Value} (hcs:cs=(cC c none 0 none 0)):GetG w w1.heap.size c none 0 none 0 (w1.alloc (.cells cs 25)):=by
 subst hcs
 exact ⟨h.below (b_a _),h.2.1,Blk.new _ _ _,by rw [hg];exact Ae.nil _ _,by rw [hw];exact Ae.nil _ _,fun _=>⟨rfl,rfl⟩,fun _=>⟨rfl,rfl⟩,.inl hg,.inl hw⟩
theorem GetG.below (h:GetG w C c ga gc wa wc W) (hb:Below W.heap.size W W'):GetG w C c ga gc wa wc W':=⟨GetW.below h.1 hb,h.2.1,h.2.2.below hb⟩
theorem Ii (h:GetW w W) {W':World} (hW:Blk W' w.heap.size 25 Bp∧W.grownBy W' (some w.heap.size)) (hr:refB ws=false) :
 Gets w ws (.returned (.tuple #[.agg Bp,.int .i64 2])) W':=by
 obtain ⟨e1,e2⟩:=Db3 ws
 rw [hr] at e1 e2
 exact ⟨Dh,none,0,none,0,e2,by rw [←e1];rfl,Ae.nil _ _,Ae.nil _ _,h.1.grown hW.2 (by have:=h.2.1;omega) (fun k e=>by have:=Option.some.inj e;omega)⟩
theorem Pk (h:GetG w C c ga gc wa wc W) (hc:c=Kt ws) {W':World} (hW:W.grownBy W' (some w.heap.size)) (hr:refB ws=true) :
 Gets w ws (.returned (.tuple #[.agg (cC c ga gc wa wc),.int .i64 0])) W':=by
 obtain ⟨e1,e2⟩:=Db3 ws
 rw [hr,if_pos rfl] at e2
 rw [hr] at e1
 exact ⟨c,ga,gc,wa,wc,hc.trans e2,by rw [←e1];rfl,h.2.2.gi.grown (v:=bv w.heap.size) hW (h.2.2.go.off (Nat.le_of_lt h.2.1)),h.2.2.wi.grown (v:=bv w.heap.size) hW (h.2.2.wo.off (Nat.le_of_lt h.2.1)),h.1.1.grown hW (by have:=h.1.2.1;omega) (fun k e=>by have:=Option.some.inj e;omega)⟩
end
end
end Go.Proofs.YtaeclpjofclbeaaDoor
