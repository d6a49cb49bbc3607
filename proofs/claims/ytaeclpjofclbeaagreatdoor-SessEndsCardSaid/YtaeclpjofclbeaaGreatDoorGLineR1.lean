/- line: Put, of whatever command. -/
import Derived.Test.YtaeclpjofclbeaaGreatDoorGCmdR
import Derived.Test.YtaeclpjofclbeaaGreatDoorGLineT
namespace Go.Proofs.YtaeclpjofclbeaaGreatDoor
open Go.ChangeShapes Go.WideShapes Go.ChangeAt Go.RowKit Go.Proofs.Tryz
open Lib (hid)
set_option linter.unusedVariables false
set_option maxHeartbeats 4000000
set_option maxRecDepth 100000
section
open Go.RowKit Go
def Aa2 (w W0:World) (lo B:Nat) (c:Cm) (ga wa:Option Addr) (gc wc:Nat) (u:Value) (k:Nat) (wr:World):Prop :=
 (Blk wr B 29 (cC c ga gc wa wc)∧some B≠u.ownBlock)∧(Below w.heap.size w wr∧w.heap.size+1≤wr.heap.size)∧(Stay lo W0 wr∧W0.heap.size≤wr.heap.size∧∀q,lo≤q→q<W0.heap.size→some q≠u.ownBlock) ∧
   (Ae wr ga c.gives∧Off ga c.gives u)∧(Ae wr wa c.wants∧Off wa c.wants u)∧wr.ownsRow (w.heap.size+1) 9 1 u (putK c (Be c.kind) k).length ((putK c (Be c.kind) k).map str)
section
variable {w W0 wr:World} {lo B:Nat} {c:Cm} {ga wa:Option Addr} {gc wc:Nat} {u:Value} {k:Nat}
theorem Aa2.alloc (h:Aa2 w W0 lo B c ga wa gc wc u k wr) (o:Obj):Aa2 w W0 lo B c ga wa gc wc u k (wr.alloc o):=by
 obtain ⟨⟨h1,h2⟩,⟨h3,h4⟩,⟨h5,h6,h7⟩,⟨h8,h9⟩,⟨h10,h11⟩,h12⟩:=h
 have hs:(wr.alloc o).heap.size=wr.heap.size+1:=by simp
 exact ⟨⟨h1.alloc o,h2⟩,⟨h3.alloc (by omega) o,by omega⟩,⟨h5.trans h6 (Stay.below (b_a o)),by omega,h7⟩,⟨h8.alloc o,h9⟩,⟨h10.alloc o,h11⟩,h12.alloc o⟩
theorem Aa2.step (h:Aa2 w W0 lo B c ga wa gc wc u k wr) (hk:k<(Be c.kind).length) {v':Value} {W1:World} (hr:W1.ownsRow (w.heap.size+1) 9 1 v' (putK c (Be c.kind) k++putP c (Be c.kind)[k]).length ((putK c (Be c.kind) k++putP c (Be c.kind)[k]).map str))
 (hg:wr.grownBy W1 u.ownBlock) (hm:Zo wr u v'):Aa2 w W0 lo B c ga wa gc wc v' (k+1) W1:=by
 obtain ⟨⟨h1,h2⟩,⟨h3,h4⟩,⟨h5,h6,h7⟩,⟨h8,h9⟩,⟨h10,h11⟩,h12⟩:=h
 have hb:=Bj8 h12 h4 hg
 refine ⟨⟨h1.grow hg h2,?_⟩,⟨h3.trans (hb.mono (by omega)),Nat.le_trans h4 hg.size⟩,⟨fun q a b=>(hg.block q (by omega) (h7 q a b)).trans (h5 q a b),Nat.le_trans h6 hg.size,fun q a b=>?_⟩,⟨h8.grown hg h9,h9.moves h8 hm⟩,⟨h10.grown hg h11,h11.moves h10 hm⟩,?_⟩
 ·have:=h1.lt
  rcases hm with hm|⟨g,hm,hg2⟩
  ·rw [hm];exact h2
  ·rw [hm];intro e;have:=Option.some.inj e;omega
 ·rcases hm with hm|⟨g,hm,hg2⟩
  ·rw [hm];exact h7 q a b
  ·rw [hm];intro e;have:=Option.some.inj e;omega
 ·rw [Ga6 c _ k hk];exact hr
theorem Aa2.piece (h:Aa2 w W0 lo B c ga wa gc wc u k wr) (hm:mayB c=true) (ht:Tabs w) (hk:k<(Be c.kind).length) {pv tv:Value} (hp:Nu W0 lo B pv tv (Be c.kind)[k]) :
 ∃F fs,pv=.func (.func F) #[] fs∧(∀(args:Array Value) (w:World),(callFunc F args).run prog w=.ok (.enter F args) w)∧Calls prog F (#[u]++fs) wr (Al7 wr (w.heap.size+1) u (putK c (Be c.kind) k++putP c (Be c.kind)[k])):=by
 obtain ⟨⟨h1,h2⟩,⟨h3,h4⟩,⟨h5,h6,h7⟩,⟨h8,h9⟩,⟨h10,h11⟩,h12⟩:=h
 exact Ds3 hp h5 h7 h1 h2 (fun W' hb=>ht.below (h3.trans (hb.mono (by omega))) lr0) (Fp3 hm _ (List.getElem_mem hk)) h8 h9 h10 h11 h12 h4 (by have:=Ek3 hm k;omega)
theorem Aa2.tabs (h:Aa2 w W0 lo B c ga wa gc wc u k wr) (ht:Tabs w):∀W',Below (w.heap.size+1) wr W'→Tabs W':=fun W' hb=>ht.below (h.2.1.1.trans (hb.mono (by omega))) lr0
end
def Sg (w:World) (c:Cm) (ga wa:Option Addr) (gc wc:Nat) (wr:World):Prop:=Below w.heap.size w wr∧w.heap.size+1≤wr.heap.size∧Blk wr w.heap.size 29 (cC c ga gc wa wc)
theorem Gd9 (x y:Value) (W:World):(Instr.field 92 (.agg #[x,y]) 0).run prog W=.ok x W:=by
 simp [Instr.field,run_underlying underlying92,Tryz.isAgg89,asAgg,Go.part,Result.andThen]
section
variable {w wr w1 w2 w3 w4:World} {c:Cm} {ga wa:Option Addr} {gc wc:Nat}
theorem Sg.new (w:World) (c:Cm) (ga wa:Option Addr) (gc wc:Nat):Sg w c ga wa gc wc (w.alloc (.cells (cC c ga gc wa wc) 29)) :=
 ⟨b_a _,by simp,Blk.new _ _ _⟩
theorem Sg.call (h:Sg w c ga wa gc wc wr) (hb:Below wr.heap.size wr w1):Sg w c ga wa gc wc w1:=⟨bl h.1 hb,Nat.le_trans h.2.1 hb.size,h.2.2.call hb⟩
theorem Ga2 (hm:mayB c=true) (H1:Ae w ga c.gives) (H2:Ae w wa c.wants) (ht:Tabs w) (h:Sg w c ga wa gc wc w1) {pv tv:Value} (hp:Nu w2 w1.heap.size w.heap.size pv tv (.one .name .kind)) (hb:Below w1.heap.size w1 w2) :
 ∃F fs,pv=.func (.func F) #[] fs∧(∀(args:Array Value) (w:World),(callFunc F args).run prog w=.ok (.enter F args) w)∧Calls prog F (#[.slice none 0 0]++fs) w2 (Al7 w2 (w.heap.size+1) (.slice none 0 0) [Aw c.kind]):=by
 have h2:=h.call hb
 have:=Ds3 (W0:=w2) (W:=w2) (base:=w.heap.size+1) (v:=.slice none 0 0) (ws:=[]) hp (Stay.refl _ _) (fun _ _ _=>by simp [Value.ownBlock]) h2.2.2 (by simp [Value.ownBlock]) (fun W' hb'=>ht.below (h2.1.trans (hb'.mono (by omega))) lr0) rfl
  (H1.below h2.1 lr0) (.inr fun _ _=>by simp [Value.ownBlock]) (H2.below h2.1 lr0) (.inr fun _ _=>by simp [Value.ownBlock]) (World.ownsRow_nil _ _ _ _) h2.2.1 (by simp)
 exact this
theorem Ga4 (H1:Ae w ga c.gives) (H2:Ae w wa c.wants) (h:Sg w c ga wa gc wc w2) {v1:Value} (hr:w3.ownsRow (w.heap.size+1) 9 1 v1 [Aw c.kind].length ([Aw c.kind].map str)) (hg:w2.grownBy w3 (Value.slice none 0 0).ownBlock) (hm:Zo w2 (.slice none 0 0) v1)
 (hb:Below w3.drew.heap.size w3.drew w4):Aa2 w w4 w3.drew.heap.size w.heap.size c ga wa gc wc v1 0 w4:=by
 have hb23:Below w2.heap.size w2 w3:=⟨hg.os,hg.tape,hg.output,hg.size,fun k hk=>hg.block k hk (by simp [Value.ownBlock])⟩
 have h3:=h.call hb23
 have hb34:Below w3.heap.size w3 w4:=⟨hb.os,hb.tape,hb.output,hb.size,hb.block⟩
 have h4:=h3.call hb34
 have hr4:=Ba3 hr hb34
 have far:∀q,v1.ownBlock=some q→w2.heap.size≤q∧q<w3.heap.size:=fun q e=>by
  rcases hm with hm|⟨g,hm,hg2⟩
  ·rw [e] at hm;simp [Value.ownBlock] at hm
  ·rw [e] at hm;obtain rfl:=Option.some.inj hm;exact ⟨hg2,(hr.lt q e).2⟩
 have off:∀(a:Option Addr) (xs:List Int),Ae w a xs→Off a xs v1:=fun a xs hI=>by
  rcases hI.2 with h|⟨b,o,rfl,hb,_⟩
  ·exact .inl h
  ·refine .inr fun p hp e=>?_
   obtain rfl:(⟨b,o,none⟩:Addr)=p:=Option.some.inj hp
   have:=(far b e.symm).1
   have:=h.2.1
   omega
 refine ⟨⟨h4.2.2,fun e=>?_⟩,⟨h4.1,h4.2.1⟩,⟨Stay.refl _ _,Nat.le_refl _,fun q a b e=>?_⟩,⟨H1.below h4.1 lr0,off _ _ H1⟩,⟨H2.below h4.1 lr0,off _ _ H2⟩,by simpa [putK] using hr4⟩
 ·have:=(far _ e.symm).1;have:=h.2.1;omega
 ·have:=(far _ e.symm).2
  have:w3.drew.heap.size=w3.heap.size:=rfl
  omega
theorem Hd6 (hm:mayB c=true) {W0:World} {lo B:Nat} {u:Value} (h:Aa2 w W0 lo B c ga wa gc wc u (Be c.kind).length wr):Strs wr u (wordsOf c)∧Below w.heap.size w wr:=by
 obtain ⟨-,⟨h3,-⟩,-,-,-,h12⟩:=h
 rw [Ek4] at h12
 exact ⟨Zi h12 (by have:=(Xo hm).2;unfold maxLen;omega),h3⟩
end
def Oz (c:Cm):Value:=.tuple #[str (if mayB c then glue (wordsOf c) else []),.int .i64 (if mayB c then 0 else 2)]
end
section
theorem Hj6 (n:Nat) (h1:1≤n) (h:n≤10):(#[.string ⟨#[]⟩,.string ⟨#[109,111,118,101]⟩,.string ⟨#[112,117,115,104]⟩,.string ⟨#[103,101,116]⟩,.string ⟨#[100,114,111,112]⟩,.string ⟨#[112,117,116]⟩,.string ⟨#[116,97,107,101]⟩,.string ⟨#[103,105,118,101]⟩,.string ⟨#[116,114,97,100,101]⟩,.string ⟨#[108,111,111,107]⟩,.string ⟨#[111,119,110]⟩]:Array Value)[n]?=some (.string ⟨(kindNames.getD (n-1) []).toArray⟩):=by
 match n,h1,h with
 | 1,_,_|2,_,_|3,_,_|4,_,_|5,_,_|6,_,_|7,_,_|8,_,_|9,_,_|10,_,_=>rfl
theorem Er (n:Int) (w:World) :
 Calls prog 48 #[.int .i64 n] w fun e w'=>e=.returned (.string ⟨(Aw n).toArray⟩)∧Below w.heap.size w w':=by
 by_cases h1:1≤n
 ·by_cases h2:n≤10
  ·have HX:=hid (show kindNames.getD (n.toNat-1) []=Aw n by unfold Aw;rw [if_pos ⟨h1,h2⟩];congr 1;omega)
   have hcell:=Hj6 n.toNat (by omega) (by omega)
   rw [HX.out] at hcell
   generalize Aw n=x at *
   go_enter func48,ntmps48
   go_wp2_with fail
   go_ret
   exact ⟨Bz8 rfl,b_a _⟩
  ·have HX:=hid (show Aw n=[] by unfold Aw;rw [if_neg (by omega)])
   go_enter func48,ntmps48
   go_wp2_with fail
   go_ret
   exact ⟨Bz8 (x:=[]) HX.symm,b_a _⟩
 ·have HX:=hid (show Aw n=[] by unfold Aw;rw [if_neg (by omega)])
  go_enter func48,ntmps48
  go_wp2_with fail
  go_ret
  exact ⟨Bz8 (x:=[]) HX.symm,b_a _⟩
theorem Bp3 (n:Int) (w:World) :
 Calls prog 49 #[.int .i64 n] w fun e w'=>e=.returned (.string ⟨(Nl n).toArray⟩)∧w=w':=by
 by_cases h:0≤n∧n<4
 ·obtain rfl|rfl|rfl|rfl:n=0∨n=1∨n=2∨n=3:=by omega
  all_goals
   clear h
   go_enter func49,ntmps49
   go_wp2_with fail
   go_ret
   exact ⟨rfl,rfl⟩
 ·have HX:=hid (show Nl n=[] by unfold Nl;rw [if_neg h])
  have e0:(n==0)=false:=by rw [beq_eq_false_iff_ne];omega
  have e1:(n==1)=false:=by rw [beq_eq_false_iff_ne];omega
  have e2:(n==2)=false:=by rw [beq_eq_false_iff_ne];omega
  have e3:(n==3)=false:=by rw [beq_eq_false_iff_ne];omega
  clear h
  go_enter func49,ntmps49
  go_wp2_with fail
  go_ret
  exact ⟨Bz8 (x:=[]) HX.symm,rfl⟩
theorem Gs (l:List UInt8) (w:World) :
 Calls prog 21 #[.string ⟨l.toArray⟩] w fun e w'=>e=.returned (.tuple #[.int .i64 (Ct l),.bool (Qq l)])∧Below w.heap.size w w':=by
 go_enter func21,ntmps21
 go_wp2_with fail
 go_loopw [4] (fun i wr=>∃k:Nat,k≤10∧i=.int .i64 ((k:Int)+1)∧l ∉ kindNames.take k∧Below w.heap.size w wr) (fun i _=>11-(intOf i).toNat)
 case atStart=>exact ⟨0,Nat.zero_le _,rfl,by simp,Below.refl _ _⟩
 case round =>
  obtain ⟨k,hk,rfl,hm,hb⟩:=hrel
  have HM:=hid hm
  have HB:=hid hb
  clear hm hb
  by_cases hlt:k<10
  ·have HNm:=hid (Cp0 hlt)
   have HH:=hid (Dd4 hlt)
   have HN:=hid (Yv (ss:=kindNames) (k:=k) (x:=l) (by simpa [kindNames] using hlt) HM.out)
   generalize kindNames.getD k []=x at *
   by_cases he:x=l
   ·subst he
    have H2:=hid (HH.out HM.out)
    go_wp2_with fail
    refine (Er _ _).mono ?_
    rintro e w1 ⟨rfl,b1⟩
    rw [HNm.out]
    go_wp2_with fail
    go_ret2
    exact ⟨As4 H2.1.symm H2.2.symm,bl HB.out b1⟩
   ·have hne:(x==l)=false:=by simpa using he
    have H2:=hid (HN.out he)
    clear he
    go_wp2_with fail
    refine (Er _ _).mono ?_
    rintro e w1 ⟨rfl,b1⟩
    rw [HNm.out]
    go_wp2_with fail
    go_roundw
    case rel=>exact ⟨k+1,by omega,by go_num,H2.out,bl HB.out b1⟩
    case measure=>simp [intOf];omega
  ·have hke:k=10:=by omega
   subst hke
   have H2:=hid (Ch4 HM.out)
   go_wp2_with fail
   go_ret2
   exact ⟨As4 H2.1.symm H2.2.symm,HB.out⟩
theorem Bq6 (l:List UInt8) (w:World) :
 Calls prog 22 #[.string ⟨l.toArray⟩] w fun e w'=>e=.returned (.tuple #[.int .i64 (dirN l),.bool (dirB l)])∧w=w':=by
 go_enter func22,ntmps22
 go_wp2_with fail
 go_loop [4] (fun i=>∃k:Nat,k≤4∧i=.int .i64 k∧l ∉ wayNames.take k) (fun i=>4-(intOf i).toNat)
 case atStart=>exact ⟨0,Nat.zero_le _,rfl,by simp⟩
 case round =>
  obtain ⟨k,hk,rfl,hm⟩:=hrel
  have HM:=hid hm
  clear hm
  by_cases hlt:k<4
  ·have HNm:=hid (Eu6 hlt)
   have HH:=hid (Fs0 hlt)
   have HN:=hid (Yv (ss:=wayNames) (k:=k) (x:=l) (by simpa [wayNames] using hlt) HM.out)
   generalize wayNames.getD k []=x at *
   by_cases he:x=l
   ·subst he
    have H2:=hid (HH.out HM.out)
    go_wp2_with fail
    refine (Bp3 _ _).mono ?_
    rintro e w' ⟨rfl,rfl⟩
    rw [HNm.out]
    go_wp2_with fail
    go_ret2
    exact ⟨As4 H2.1.symm H2.2.symm,rfl⟩
   ·have hne:(x==l)=false:=by simpa using he
    have H2:=hid (HN.out he)
    clear he
    go_wp2_with fail
    refine (Bp3 _ _).mono ?_
    rintro e w' ⟨rfl,rfl⟩
    rw [HNm.out]
    go_wp2_with fail
    go_round
    case rel=>exact ⟨k+1,by omega,by go_num,H2.out⟩
    case measure=>simp [intOf];omega
  ·have hke:k=4:=by omega
   subst hke
   have H2:=hid (Er5 HM.out)
   go_wp2_with fail
   go_ret2
   exact ⟨As4 H2.1.symm H2.2.symm,rfl⟩
end
section
open Go.RowKit Go
theorem Ki (x:Int) (w:World) (h0:0≤x) (h1:x≤1073741824):Calls prog 53 #[.int .i64 x] w fun e w'=>e=.returned (.string ⟨(wd x).toArray⟩)∧Below w.heap.size w w':=by
 have hr:=Ah2 x.toNat
 rw [show ((x.toNat:Nat):Int)=x by omega] at hr
 have hCC:=@cC.eq_1
 go_enter func53,ntmps53
 go_wp2_with fail
 refine (hr _ (by omega)).mono ?_
 rintro e w1 ⟨rfl,b1⟩
 go_wp2_with fail
 go_ret
 exact ⟨rfl,b1⟩
theorem An7 (n:Int) (w:World):Calls prog 49 #[.int .i64 n] w fun e w'=>e=.returned (.string ⟨(Nl n).toArray⟩)∧Below w.heap.size w w' :=
 (Bp3 n w).mono fun e w' ⟨h1,h2⟩=>⟨h1,h2 ▸ Below.refl _ _⟩
def Tw (w:World) (c:Cm) (ga wa:Option Addr) (gc wc:Nat) (u:Value) (ws:List (List UInt8)) (wr:World):Prop :=
 Sg w c ga wa gc wc wr∧wr.ownsRow (w.heap.size+1) 9 1 u ws.length (ws.map str)
section
variable {w wr w1:World} {c:Cm} {ga wa:Option Addr} {gc wc:Nat} {u:Value} {ws:List (List UInt8)}
theorem Tw.cells (h:Tw w c ga wa gc wc u ws wr):∀i,wr.cell? ⟨w.heap.size,i,none⟩=((cC c ga gc wa wc)[i]?:Option Value):=h.1.2.2.cell
theorem Tw.call (h:Tw w c ga wa gc wc u ws wr) (hb:Below wr.heap.size wr w1):Tw w c ga wa gc wc u ws w1:=⟨h.1.call hb,Ba3 h.2 hb⟩
theorem Tw.alloc (h:Tw w c ga wa gc wc u ws wr) (o:Obj):Tw w c ga wa gc wc u ws (wr.alloc o):=h.call (b_a _)
theorem Tw.drew (h:Tw w c ga wa gc wc u ws wr):Tw w c ga wa gc wc u ws wr.drew:=⟨⟨⟨h.1.1.os,h.1.1.tape,h.1.1.output,h.1.1.size,h.1.1.block⟩,h.1.2⟩,h.2⟩
theorem Lv (h:Tw w c ga wa gc wc u ws wr) (xs:List (List UInt8)) (hl:ws.length+xs.length≤1000000) (cs:Array Value) (hcs:cs=(xs.map str).toArray) (n:Nat) (hn:n=xs.length) :
 ∃v' W',(Builtin.append_ #[22,22] 22 #[u,.slice (some ⟨wr.heap.size,0,none⟩) n n]).run prog (wr.alloc (.cells cs 9))=.ok v' W'∧Tw w c ga wa gc wc v' (ws++xs) W':=by
 subst hcs hn
 have hA:=h.alloc (.cells (xs.map str).toArray 9)
 have hS:Strs (wr.alloc (.cells (xs.map str).toArray 9)) (.slice (some ⟨wr.heap.size,0,none⟩) xs.length xs.length) xs:=by
  refine ⟨_,_,rfl,by unfold maxLen;omega,.inr ⟨wr.heap.size,0,rfl,by simp,fun i hi=>?_⟩⟩
  rw [Nat.zero_add,World.cell?_alloc_at _ _ _ _ rfl]
  simp [hi]
 obtain ⟨v',W',hr,h1,h2⟩:=Ah8 22 hA.2 hS hl hA.1.2.1
 have hb:=Bj8 hA.2 hA.1.2.1 h2
 refine ⟨v',W',hr,⟨hA.1.1.trans (hb.mono (by omega)),Nat.le_trans hA.1.2.1 h2.size,hA.1.2.2.below hb (by omega)⟩,by simpa using h1⟩
theorem Rt (h:Sg w c ga wa gc wc wr) (x:List UInt8):Tw w c ga wa gc wc (.slice (some ⟨wr.heap.size,0,none⟩) 1 1) [x] (wr.alloc (.cells #[.string ⟨x.toArray⟩] 9)) :=
 ⟨h.call (b_a _),rfl,.inr ⟨wr.heap.size,1,#[str x],rfl,h.2.1,by show (wr.heap.push _)[wr.heap.size]?=some _;simp [str],Nat.le_refl _,by unfold maxLen;omega,rfl,rfl⟩⟩
theorem Tt (h:Tw w c ga wa gc wc u ws wr) (hl:ws.length≤1000):Jk ws w (.returned u) wr:=⟨u,rfl,Zi h.2 (by unfold maxLen;omega),h.1.1⟩
end
theorem Fe5 (d i b h p f:Int) (gs ws:List Int) (ga wa:Option Addr) (gc wc:Nat) (w:World) :
 Calls prog 26 #[.agg #[.int .i64 9,.int .i64 d,.int .i64 i,.int .i64 b,.int .i64 h,.slice ga gs.length gc,.int .i64 p,.slice wa ws.length wc,.int .i64 f]] w (Jk ([Aw 9]) w):=by
 have hCC:=@cC.eq_1
 go_enter func26,ntmps26
 go_wp2_with fail
 have P0:=hid (Sg.new w ⟨9,d,i,b,h,gs,p,ws,f⟩ ga wa gc wc)
 refine (Er 9 _).mono ?_
 rintro e w1 ⟨rfl,b1⟩
 have R0:=hid (Rt (P0.call b1) (Aw 9))
 have hA:=R0.cells
 clear b1 P0
 go_wp2_with fail
 go_ret
 exact Tt R0.out (by simp)
theorem Ei7 (d i b h p f:Int) (gs ws:List Int) (ga wa:Option Addr) (gc wc:Nat) (w:World) :
 Calls prog 26 #[.agg #[.int .i64 10,.int .i64 d,.int .i64 i,.int .i64 b,.int .i64 h,.slice ga gs.length gc,.int .i64 p,.slice wa ws.length wc,.int .i64 f]] w (Jk ([Aw 10]) w):=by
 have hCC:=@cC.eq_1
 go_enter func26,ntmps26
 go_wp2_with fail
 have P0:=hid (Sg.new w ⟨10,d,i,b,h,gs,p,ws,f⟩ ga wa gc wc)
 refine (Er 10 _).mono ?_
 rintro e w1 ⟨rfl,b1⟩
 have R0:=hid (Rt (P0.call b1) (Aw 10))
 have hA:=R0.cells
 clear b1 P0
 go_wp2_with fail
 go_ret
 exact Tt R0.out (by simp)
theorem Ff3 (d i b h p f:Int) (gs ws:List Int) (ga wa:Option Addr) (gc wc:Nat) (w:World) :
 Calls prog 26 #[.agg #[.int .i64 1,.int .i64 d,.int .i64 i,.int .i64 b,.int .i64 h,.slice ga gs.length gc,.int .i64 p,.slice wa ws.length wc,.int .i64 f]] w (Jk ([Aw 1,Nl d]) w):=by
 have hCC:=@cC.eq_1
 go_enter func26,ntmps26
 go_wp2_with fail
 have P0:=hid (Sg.new w ⟨1,d,i,b,h,gs,p,ws,f⟩ ga wa gc wc)
 refine (Er 1 _).mono ?_
 rintro e w1 ⟨rfl,b1⟩
 have R0:=hid (Rt (P0.call b1) (Aw 1))
 have hA:=R0.cells
 clear b1 P0
 go_wp2_with fail
 refine (An7 d _).mono ?_
 rintro e w2 ⟨rfl,b2⟩
 have R1:=hid (R0.call b2)
 obtain ⟨v',W2,hrun,hR⟩:=Lv R1.out [Nl d] (by simp) #[.string ⟨(Nl d).toArray⟩] rfl 1 rfl
 have R2:=hid hR
 have HN:=hid hrun
 clear hA b2 hrun hR
 go_wp2_with (at_builtin;refine Ic rfl (.tmp 14) (.tmp 18) 22 rfl _ _ v' W2 rfl rfl HN.out ?_)
 go_ret
 exact Tt R2.out (by simp)
theorem Ff1 (d i b h p f:Int) (gs ws:List Int) (ga wa:Option Addr) (gc wc:Nat) (w:World) (h0:0≤i) (h1:i≤1073741824) :
 Calls prog 26 #[.agg #[.int .i64 3,.int .i64 d,.int .i64 i,.int .i64 b,.int .i64 h,.slice ga gs.length gc,.int .i64 p,.slice wa ws.length wc,.int .i64 f]] w (Jk ([Aw 3,wd i]) w):=by
 have hCC:=@cC.eq_1
 go_enter func26,ntmps26
 go_wp2_with fail
 have P0:=hid (Sg.new w ⟨3,d,i,b,h,gs,p,ws,f⟩ ga wa gc wc)
 refine (Er 3 _).mono ?_
 rintro e w1 ⟨rfl,b1⟩
 have R0:=hid (Rt (P0.call b1) (Aw 3))
 have hA:=R0.cells
 clear b1 P0
 go_wp2_with fail
 refine (Ki i _ h0 h1).mono ?_
 rintro e w2 ⟨rfl,b2⟩
 have R1:=hid (R0.call b2)
 obtain ⟨v',W2,hrun,hR⟩:=Lv R1.out [wd i] (by simp) #[.string ⟨(wd i).toArray⟩] rfl 1 rfl
 have R2:=hid hR
 have HN:=hid hrun
 clear hA b2 hrun hR
 go_wp2_with (at_builtin;refine Ic rfl (.tmp 34) (.tmp 38) 22 rfl _ _ v' W2 rfl rfl HN.out ?_)
 go_ret
 exact Tt R2.out (by simp)
theorem Ff0 (d i b h p f:Int) (gs ws:List Int) (ga wa:Option Addr) (gc wc:Nat) (w:World) (h0:0≤i) (h1:i≤1073741824) :
 Calls prog 26 #[.agg #[.int .i64 4,.int .i64 d,.int .i64 i,.int .i64 b,.int .i64 h,.slice ga gs.length gc,.int .i64 p,.slice wa ws.length wc,.int .i64 f]] w (Jk ([Aw 4,wd i]) w):=by
 have hCC:=@cC.eq_1
 go_enter func26,ntmps26
 go_wp2_with fail
 have P0:=hid (Sg.new w ⟨4,d,i,b,h,gs,p,ws,f⟩ ga wa gc wc)
 refine (Er 4 _).mono ?_
 rintro e w1 ⟨rfl,b1⟩
 have R0:=hid (Rt (P0.call b1) (Aw 4))
 have hA:=R0.cells
 clear b1 P0
 go_wp2_with fail
 refine (Ki i _ h0 h1).mono ?_
 rintro e w2 ⟨rfl,b2⟩
 have R1:=hid (R0.call b2)
 obtain ⟨v',W2,hrun,hR⟩:=Lv R1.out [wd i] (by simp) #[.string ⟨(wd i).toArray⟩] rfl 1 rfl
 have R2:=hid hR
 have HN:=hid hrun
 clear hA b2 hrun hR
 go_wp2_with (at_builtin;refine Ic rfl (.tmp 34) (.tmp 38) 22 rfl _ _ v' W2 rfl rfl HN.out ?_)
 go_ret
 exact Tt R2.out (by simp)
theorem Ff2 (d i b h p f:Int) (gs ws:List Int) (ga wa:Option Addr) (gc wc:Nat) (w:World) (h0:0≤h) (h1:h≤1073741824) :
 Calls prog 26 #[.agg #[.int .i64 2,.int .i64 d,.int .i64 i,.int .i64 b,.int .i64 h,.slice ga gs.length gc,.int .i64 p,.slice wa ws.length wc,.int .i64 f]] w (Jk (Aw 2 :: [wd h,Nl d]) w):=by
 have hCC:=@cC.eq_1
 go_enter func26,ntmps26
 go_wp2_with fail
 have P0:=hid (Sg.new w ⟨2,d,i,b,h,gs,p,ws,f⟩ ga wa gc wc)
 refine (Er 2 _).mono ?_
 rintro e w1 ⟨rfl,b1⟩
 have R0:=hid (Rt (P0.call b1) (Aw 2))
 have hA:=R0.cells
 clear b1 P0
 have S0:=hid R0.drew
 go_wp2_with fail
 clear hA
 refine tkS (S:=(fun w'=>∀j,w'.cell? ⟨w.heap.size,j,none⟩=(#[.int .i64 2,.int .i64 d,.int .i64 i,.int .i64 b,.int .i64 h,.slice ga gs.length gc,.int .i64 p,.slice wa ws.length wc,.int .i64 f][j]?:Option Value))) (by (first|(exact HR.cells)|(exact (S0.alloc _).cells)|(exact S0.cells))) (fun hHeld=>?_)
 refine tkl [0,1,2,4,5,3,6,7] ?_
 iterate 8
  first
   | refine tW ?_|refine tN ?_
   | (refine rT (fun K hK=>?_)
      go_simp
      first
       | (go_at_call 53;(first|(with_reducible refine (Ki h _ h0 h1).mono ?_));rintro e w9 ⟨rfl,hb⟩;replace S0:=hid (S0.out.call hb);clear hb)
       | (go_at_call 49;(first|(with_reducible refine (An7 d _).mono ?_));rintro e w9 ⟨rfl,hb⟩;replace S0:=hid (S0.out.call hb);clear hb)
       | (skip)
      try go_wp2_with fail
      refine hK.out _ _ (by (first|(exact HR.cells)|(exact (S0.alloc _).cells)|(exact S0.cells))) (fun hHeld=>?_)
      clear hK K)
  try go_frame
 refine rdy1 8 (fun K hK=>?_)
 (obtain ⟨v',W2,hrun,hR⟩:=Lv S0.out [wd h,Nl d] (by simp) #[.string ⟨(wd h).toArray⟩,.string ⟨(Nl d).toArray⟩] rfl 2 rfl);have HR:=hid hR;clear hR;refine Gb rfl (.tmp 22) (.tmp 29) 22 rfl _ _ v' W2 rfl rfl hrun ?_;clear hrun
 refine hK.out _ _ (by (first|(exact HR.cells)|(exact (S0.alloc _).cells)|(exact S0.cells))) (fun hHeld=>?_)
 clear hK K
 try go_frame
 refine tkl [9] ?_
 iterate 1
  first
   | refine tW ?_|refine tN ?_
   | (refine rT (fun K hK=>?_)
      go_simp
      first
       | (go_at_call 53;(first|(with_reducible refine (Ki h _ h0 h1).mono ?_));rintro e w9 ⟨rfl,hb⟩;replace S0:=hid (S0.out.call hb);clear hb)
       | (go_at_call 49;(first|(with_reducible refine (An7 d _).mono ?_));rintro e w9 ⟨rfl,hb⟩;replace S0:=hid (S0.out.call hb);clear hb)
       | (skip)
      try go_wp2_with fail
      refine hK.out _ _ (by (first|(exact HR.cells)|(exact (S0.alloc _).cells)|(exact S0.cells))) (fun hHeld=>?_)
      clear hK K)
  try go_frame
 refine tkD ?_
 go_wp2_with fail
 go_ret
 exact Tt HR.out (by simp)
theorem Fe9 (d i b h p f:Int) (gs ws:List Int) (ga wa:Option Addr) (gc wc:Nat) (w:World) (h0:0≤i) (h1:i≤1073741824) (h2:0≤b) (h3:b≤1073741824) :
 Calls prog 26 #[.agg #[.int .i64 5,.int .i64 d,.int .i64 i,.int .i64 b,.int .i64 h,.slice ga gs.length gc,.int .i64 p,.slice wa ws.length wc,.int .i64 f]] w (Jk (Aw 5 :: [wd i,sIn,wd b]) w):=by
 have hCC:=@cC.eq_1
 go_enter func26,ntmps26
 go_wp2_with fail
 have P0:=hid (Sg.new w ⟨5,d,i,b,h,gs,p,ws,f⟩ ga wa gc wc)
 refine (Er 5 _).mono ?_
 rintro e w1 ⟨rfl,b1⟩
 have R0:=hid (Rt (P0.call b1) (Aw 5))
 have hA:=R0.cells
 clear b1 P0
 have S0:=hid R0.drew
 go_wp2_with fail
 clear hA
 refine tkS (S:=(fun w'=>∀j,w'.cell? ⟨w.heap.size,j,none⟩=(#[.int .i64 5,.int .i64 d,.int .i64 i,.int .i64 b,.int .i64 h,.slice ga gs.length gc,.int .i64 p,.slice wa ws.length wc,.int .i64 f][j]?:Option Value))) (by (first|(exact HR.cells)|(exact (S0.alloc _).cells)|(exact S0.cells))) (fun hHeld=>?_)
 refine tkl [0,1,2,4,5,3,6,7] ?_
 iterate 8
  first
   | refine tW ?_|refine tN ?_
   | (refine rT (fun K hK=>?_)
      go_simp
      first
       | (go_at_call 53;(first|(with_reducible refine (Ki i _ h0 h1).mono ?_)|(with_reducible refine (Ki b _ h2 h3).mono ?_));rintro e w9 ⟨rfl,hb⟩;replace S0:=hid (S0.out.call hb);clear hb)
       | (skip)
      try go_wp2_with fail
      refine hK.out _ _ (by (first|(exact HR.cells)|(exact (S0.alloc _).cells)|(exact S0.cells))) (fun hHeld=>?_)
      clear hK K)
  try go_frame
 refine rdy1 8 (fun K hK=>?_)
 (obtain ⟨v',W2,hrun,hR⟩:=Lv S0.out [wd i,sIn,wd b] (by simp) #[.string ⟨(wd i).toArray⟩,.string ⟨#[105,110]⟩,.string ⟨(wd b).toArray⟩] rfl 3 rfl);have HR:=hid hR;clear hR;refine Gb rfl (.tmp 42) (.tmp 49) 22 rfl _ _ v' W2 rfl rfl hrun ?_;clear hrun
 refine hK.out _ _ (by (first|(exact HR.cells)|(exact (S0.alloc _).cells)|(exact S0.cells))) (fun hHeld=>?_)
 clear hK K
 try go_frame
 refine tkl [9] ?_
 iterate 1
  first
   | refine tW ?_|refine tN ?_
   | (refine rT (fun K hK=>?_)
      go_simp
      first
       | (go_at_call 53;(first|(with_reducible refine (Ki i _ h0 h1).mono ?_)|(with_reducible refine (Ki b _ h2 h3).mono ?_));rintro e w9 ⟨rfl,hb⟩;replace S0:=hid (S0.out.call hb);clear hb)
       | (skip)
      try go_wp2_with fail
      refine hK.out _ _ (by (first|(exact HR.cells)|(exact (S0.alloc _).cells)|(exact S0.cells))) (fun hHeld=>?_)
      clear hK K)
  try go_frame
 refine tkD ?_
 go_wp2_with fail
 go_ret
 exact Tt HR.out (by simp)
theorem Fe8 (d i b h p f:Int) (gs ws:List Int) (ga wa:Option Addr) (gc wc:Nat) (w:World) (h0:0≤i) (h1:i≤1073741824) (h2:0≤b) (h3:b≤1073741824) :
 Calls prog 26 #[.agg #[.int .i64 6,.int .i64 d,.int .i64 i,.int .i64 b,.int .i64 h,.slice ga gs.length gc,.int .i64 p,.slice wa ws.length wc,.int .i64 f]] w (Jk (Aw 6 :: [wd i,As0,wd b]) w):=by
 have hCC:=@cC.eq_1
 go_enter func26,ntmps26
 go_wp2_with fail
 have P0:=hid (Sg.new w ⟨6,d,i,b,h,gs,p,ws,f⟩ ga wa gc wc)
 refine (Er 6 _).mono ?_
 rintro e w1 ⟨rfl,b1⟩
 have R0:=hid (Rt (P0.call b1) (Aw 6))
 have hA:=R0.cells
 clear b1 P0
 have S0:=hid R0.drew
 go_wp2_with fail
 clear hA
 refine tkS (S:=(fun w'=>∀j,w'.cell? ⟨w.heap.size,j,none⟩=(#[.int .i64 6,.int .i64 d,.int .i64 i,.int .i64 b,.int .i64 h,.slice ga gs.length gc,.int .i64 p,.slice wa ws.length wc,.int .i64 f][j]?:Option Value))) (by (first|(exact HR.cells)|(exact (S0.alloc _).cells)|(exact S0.cells))) (fun hHeld=>?_)
 refine tkl [0,1,2,4,5,3,6,7] ?_
 iterate 8
  first
   | refine tW ?_|refine tN ?_
   | (refine rT (fun K hK=>?_)
      go_simp
      first
       | (go_at_call 53;(first|(with_reducible refine (Ki i _ h0 h1).mono ?_)|(with_reducible refine (Ki b _ h2 h3).mono ?_));rintro e w9 ⟨rfl,hb⟩;replace S0:=hid (S0.out.call hb);clear hb)
       | (skip)
      try go_wp2_with fail
      refine hK.out _ _ (by (first|(exact HR.cells)|(exact (S0.alloc _).cells)|(exact S0.cells))) (fun hHeld=>?_)
      clear hK K)
  try go_frame
 refine rdy1 8 (fun K hK=>?_)
 (obtain ⟨v',W2,hrun,hR⟩:=Lv S0.out [wd i,As0,wd b] (by simp) #[.string ⟨(wd i).toArray⟩,.string ⟨#[102,114,111,109]⟩,.string ⟨(wd b).toArray⟩] rfl 3 rfl);have HR:=hid hR;clear hR;refine Gb rfl (.tmp 53) (.tmp 60) 22 rfl _ _ v' W2 rfl rfl hrun ?_;clear hrun
 refine hK.out _ _ (by (first|(exact HR.cells)|(exact (S0.alloc _).cells)|(exact S0.cells))) (fun hHeld=>?_)
 clear hK K
 try go_frame
 refine tkl [9] ?_
 iterate 1
  first
   | refine tW ?_|refine tN ?_
   | (refine rT (fun K hK=>?_)
      go_simp
      first
       | (go_at_call 53;(first|(with_reducible refine (Ki i _ h0 h1).mono ?_)|(with_reducible refine (Ki b _ h2 h3).mono ?_));rintro e w9 ⟨rfl,hb⟩;replace S0:=hid (S0.out.call hb);clear hb)
       | (skip)
      try go_wp2_with fail
      refine hK.out _ _ (by (first|(exact HR.cells)|(exact (S0.alloc _).cells)|(exact S0.cells))) (fun hHeld=>?_)
      clear hK K)
  try go_frame
 refine tkD ?_
 go_wp2_with fail
 go_ret
 exact Tt HR.out (by simp)
theorem Fe7 (d i b h p f:Int) (gs ws:List Int) (ga wa:Option Addr) (gc wc:Nat) (w:World) (h0:0≤i) (h1:i≤1073741824) (h2:0≤h) (h3:h≤1073741824) :
 Calls prog 26 #[.agg #[.int .i64 7,.int .i64 d,.int .i64 i,.int .i64 b,.int .i64 h,.slice ga gs.length gc,.int .i64 p,.slice wa ws.length wc,.int .i64 f]] w (Jk (Aw 7 :: [wd i,sTo,wd h]) w):=by
 have hCC:=@cC.eq_1
 go_enter func26,ntmps26
 go_wp2_with fail
 have P0:=hid (Sg.new w ⟨7,d,i,b,h,gs,p,ws,f⟩ ga wa gc wc)
 refine (Er 7 _).mono ?_
 rintro e w1 ⟨rfl,b1⟩
 have R0:=hid (Rt (P0.call b1) (Aw 7))
 have hA:=R0.cells
 clear b1 P0
 have S0:=hid R0.drew
 go_wp2_with fail
 clear hA
 refine tkS (S:=(fun w'=>∀j,w'.cell? ⟨w.heap.size,j,none⟩=(#[.int .i64 7,.int .i64 d,.int .i64 i,.int .i64 b,.int .i64 h,.slice ga gs.length gc,.int .i64 p,.slice wa ws.length wc,.int .i64 f][j]?:Option Value))) (by (first|(exact HR.cells)|(exact (S0.alloc _).cells)|(exact S0.cells))) (fun hHeld=>?_)
 refine tkl [0,1,2,4,5,3,6,7] ?_
 iterate 8
  first
   | refine tW ?_|refine tN ?_
   | (refine rT (fun K hK=>?_)
      go_simp
      first
       | (go_at_call 53;(first|(with_reducible refine (Ki i _ h0 h1).mono ?_)|(with_reducible refine (Ki h _ h2 h3).mono ?_));rintro e w9 ⟨rfl,hb⟩;replace S0:=hid (S0.out.call hb);clear hb)
       | (skip)
      try go_wp2_with fail
      refine hK.out _ _ (by (first|(exact HR.cells)|(exact (S0.alloc _).cells)|(exact S0.cells))) (fun hHeld=>?_)
      clear hK K)
  try go_frame
 refine rdy1 8 (fun K hK=>?_)
 (obtain ⟨v',W2,hrun,hR⟩:=Lv S0.out [wd i,sTo,wd h] (by simp) #[.string ⟨(wd i).toArray⟩,.string ⟨#[116,111]⟩,.string ⟨(wd h).toArray⟩] rfl 3 rfl);have HR:=hid hR;clear hR;refine Gb rfl (.tmp 64) (.tmp 71) 22 rfl _ _ v' W2 rfl rfl hrun ?_;clear hrun
 refine hK.out _ _ (by (first|(exact HR.cells)|(exact (S0.alloc _).cells)|(exact S0.cells))) (fun hHeld=>?_)
 clear hK K
 try go_frame
 refine tkl [9] ?_
 iterate 1
  first
   | refine tW ?_|refine tN ?_
   | (refine rT (fun K hK=>?_)
      go_simp
      first
       | (go_at_call 53;(first|(with_reducible refine (Ki i _ h0 h1).mono ?_)|(with_reducible refine (Ki h _ h2 h3).mono ?_));rintro e w9 ⟨rfl,hb⟩;replace S0:=hid (S0.out.call hb);clear hb)
       | (skip)
      try go_wp2_with fail
      refine hK.out _ _ (by (first|(exact HR.cells)|(exact (S0.alloc _).cells)|(exact S0.cells))) (fun hHeld=>?_)
      clear hK K)
  try go_frame
 refine tkD ?_
 go_wp2_with fail
 go_ret
 exact Tt HR.out (by simp)
end
section
open Go.RowKit Go
theorem Fe6 (d i b h p f:Int) (gs ws:List Int) (ga wa:Option Addr) (gc wc:Nat) (w:World) (h0:0≤h) (h1:h≤1073741824) (h2:0≤p) (h3:p≤1073741824) (h4:0≤f) (h5:f≤1073741824) (hg:areB gs=true) (hw:areB ws=true) (gl:gs.length≤16) (wl:ws.length≤16) (I1:Ae w ga gs) (I2:Ae w wa ws) :
 Calls prog 26 #[.agg #[.int .i64 8,.int .i64 d,.int .i64 i,.int .i64 b,.int .i64 h,.slice ga gs.length gc,.int .i64 p,.slice wa ws.length wc,.int .i64 f]] w (Jk (([Aw 8,wd h,Lg]++gs.map wd++[Dc,wd p,sFor])++ws.map wd++[Dc,wd f]) w):=by
 have HG:=hid hg
 have HW:=hid hw
 have J1:=hid I1
 have J2:=hid I2
 clear hg hw I1 I2
 have hCC:=@cC.eq_1
 go_enter func26,ntmps26
 go_wp2_with fail
 have P0:=hid (Sg.new w ⟨8,d,i,b,h,gs,p,ws,f⟩ ga wa gc wc)
 refine (Er 8 _).mono ?_
 rintro e w1 ⟨rfl,b1⟩
 have R0:=hid (Rt (P0.call b1) (Aw 8))
 have hA:=R0.cells
 clear b1 P0
 go_wp2_with fail
 refine (Ki h _ h0 h1).mono ?_
 rintro e w2 ⟨rfl,b2⟩
 have R1:=hid (R0.call b2)
 obtain ⟨v1,W1,hrun,hR⟩:=Lv R1.out [wd h,Lg] (by simp) #[.string ⟨(wd h).toArray⟩,.string ⟨#[103,105,118,101]⟩] rfl 2 rfl
 have R2:=hid hR
 have HN:=hid hrun
 clear hA b2 hrun hR R0 R1
 go_wp2_with (at_builtin;refine Ic rfl (.tmp 75) (.tmp 79) 22 rfl _ _ v1 W1 rfl rfl HN.out ?_)
 clear HN
 go_loopw [3,4] (fun u t wr=>∃k:Nat,k≤gs.length∧t=.int .i64 k∧Tw w ⟨8,d,i,b,h,gs,p,ws,f⟩ ga wa gc wc u ([Aw 8,wd h,Lg]++(gs.take k).map wd) wr) (fun _ t _=>gs.length-(intOf t).toNat)
 case atStart=>exact ⟨0,Nat.zero_le _,rfl,by simpa using R2.out⟩
 case round =>
  clear R2
  obtain ⟨k,hk,rfl,hr⟩:=hrel
  have R3:=hid hr
  have hA:=hr.cells
  clear hr
  by_cases hlt:k<gs.length
  ·obtain ⟨lb,lo,rfl,-,hc⟩:=(J1.below R3.1.1 lr0).at_ hlt
   have hcell:=hc k hlt
   obtain ⟨n0,n1⟩:=Dg3 HG.out k hlt
   have HE:=hid (show [Aw 8,wd h,Lg]++(gs.take (k+1)).map wd=([Aw 8,wd h,Lg]++(gs.take k).map wd)++[wd gs[k]] by rw [List.take_succ_eq_append_getElem hlt];simp only [List.map_append,List.map_cons,List.map_nil,List.append_assoc])
   generalize gs[k]=n at *
   clear hc
   go_wp2_with fail
   refine (Ki n _ n0 n1).mono ?_
   rintro e w3 ⟨rfl,b3⟩
   obtain ⟨v2,W2,hrun,hR⟩:=Lv (R3.call b3) [wd n] (by simp;omega) #[.string ⟨(wd n).toArray⟩] rfl 1 rfl
   have R4:=hid hR
   have HN:=hid hrun
   clear hA b3 hrun hR hcell
   go_wp2_with (at_builtin;refine Ic rfl (.tmp 88) (.tmp 95) 22 rfl _ _ v2 W2 rfl rfl HN.out ?_)
   go_roundw
   case rel=>exact ⟨k+1,by omega,by go_num,by rw [HE.out];exact R4.out⟩
   case measure=>simp [intOf];omega
  ·have hke:k=gs.length:=by omega
   subst hke
   have HE:=hid (show (gs.take gs.length).map wd=gs.map wd by rw [List.take_of_length_le lr0])
   go_wp2_with fail
   refine (Ki p _ h2 h3).mono ?_
   rintro e w3 ⟨rfl,b3⟩
   have R3':=R3.out
   rw [HE.out] at R3'
   obtain ⟨v2,W2,hrun,hR⟩:=Lv (R3'.call b3) [Dc,wd p,sFor] (by simp;omega) #[.string ⟨#[99,111,105,110,115]⟩,.string ⟨(wd p).toArray⟩,.string ⟨#[102,111,114]⟩] rfl 3 rfl
   have R4:=hid hR
   have HN:=hid hrun
   clear hA b3 hrun hR R3' R3 HE
   go_wp2_with (at_builtin;refine Ic rfl (.tmp 97) (.tmp 101) 22 rfl _ _ v2 W2 rfl rfl HN.out ?_)
   clear HN
   have HP:Hid (([Aw 8,wd h,Lg]++gs.map wd++[Dc,wd p,sFor]).length≤100):=hid (by simp;omega)
   generalize hpre:[Aw 8,wd h,Lg]++gs.map wd++[Dc,wd p,sFor]=pre at *
   have HQ:=hid hpre
   clear hpre
   go_loopw [3,5] (fun u t wr=>∃k:Nat,k≤ws.length∧t=.int .i64 k∧Tw w ⟨8,d,i,b,h,gs,p,ws,f⟩ ga wa gc wc u (pre++(ws.take k).map wd) wr) (fun _ t _=>ws.length-(intOf t).toNat)
   case atStart=>exact ⟨0,Nat.zero_le _,rfl,by simpa using R4.out⟩
   case round =>
    clear R4
    obtain ⟨k,hk,rfl,hr⟩:=hrel
    have R5:=hid hr
    have hA:=hr.cells
    clear hr
    by_cases hlt:k<ws.length
    ·obtain ⟨lb,lo,rfl,-,hc⟩:=(J2.below R5.1.1 lr0).at_ hlt
     have hcell:=hc k hlt
     obtain ⟨n0,n1⟩:=Dg3 HW.out k hlt
     have HE:=hid (show pre++(ws.take (k+1)).map wd=(pre++(ws.take k).map wd)++[wd ws[k]] by rw [List.take_succ_eq_append_getElem hlt];simp only [List.map_append,List.map_cons,List.map_nil,List.append_assoc])
     generalize ws[k]=n at *
     clear hc
     go_wp2_with fail
     refine (Ki n _ n0 n1).mono ?_
     rintro e w4 ⟨rfl,b4⟩
     obtain ⟨v3,W3,hrun,hR⟩:=Lv (R5.call b4) [wd n] (by have:=HP.out;simp;omega) #[.string ⟨(wd n).toArray⟩] rfl 1 rfl
     have R6:=hid hR
     have HN:=hid hrun
     clear hA b4 hrun hR hcell
     go_wp2_with (at_builtin;refine Ic rfl (.tmp 110) (.tmp 117) 22 rfl _ _ v3 W3 rfl rfl HN.out ?_)
     go_roundw
     case rel=>exact ⟨k+1,by omega,by go_num,by rw [HE.out];exact R6.out⟩
     case measure=>simp [intOf];omega
    ·have hke:k=ws.length:=by omega
     subst hke
     have HE:=hid (show (ws.take ws.length).map wd=ws.map wd by rw [List.take_of_length_le lr0])
     go_wp2_with fail
     refine (Ki f _ h4 h5).mono ?_
     rintro e w4 ⟨rfl,b4⟩
     have R5':=R5.out
     rw [HE.out] at R5'
     obtain ⟨v3,W3,hrun,hR⟩:=Lv (R5'.call b4) [Dc,wd f] (by have:=HP.out;simp;omega) #[.string ⟨#[99,111,105,110,115]⟩,.string ⟨(wd f).toArray⟩] rfl 2 rfl
     have R6:=hid hR
     have HN:=hid hrun
     clear hA b4 hrun hR R5' R5 HE
     go_wp2_with (at_builtin;refine Ic rfl (.tmp 119) (.tmp 123) 22 rfl _ _ v3 W3 rfl rfl HN.out ?_)
     go_ret
     have h6:=Tt R6.out (by have:=HP.out;simp;omega)
     rw [←HQ.out] at h6
     simp only [List.cons_append,List.nil_append,List.append_assoc] at h6 ⊢
     exact h6
theorem Hm (c:Cm) (ga wa:Option Addr) (gc wc:Nat) (w:World) (hm:mayB c=true) (I1:Ae w ga c.gives) (I2:Ae w wa c.wants):Calls prog 26 #[.agg (cC c ga gc wa wc)] w (Jk (wordsOf c) w):=by
 obtain ⟨hk,h2,h3,h4,h5,h6,h7,h8,h9,-,l1,l2⟩:=Oa hm
 obtain ⟨k,d,i,b,h,gs,p,ws,f⟩:=c
 simp only [okN,Bool.and_eq_true,decide_eq_true_eq] at h3 h4 h5 h6 h7
 simp only at hk
 rcases Pj hk with rfl|rfl|rfl|rfl|rfl|rfl|rfl|rfl|rfl|rfl
 ·exact Ff3 d i b h p f gs ws ga wa gc wc w
 ·exact Ff2 d i b h p f gs ws ga wa gc wc w h5.1 h5.2
 ·exact Ff1 d i b h p f gs ws ga wa gc wc w h3.1 h3.2
 ·exact Ff0 d i b h p f gs ws ga wa gc wc w h3.1 h3.2
 ·exact Fe9 d i b h p f gs ws ga wa gc wc w h3.1 h3.2 h4.1 h4.2
 ·exact Fe8 d i b h p f gs ws ga wa gc wc w h3.1 h3.2 h4.1 h4.2
 ·exact Fe7 d i b h p f gs ws ga wa gc wc w h3.1 h3.2 h5.1 h5.2
 ·have:=Fe6 d i b h p f gs ws ga wa gc wc w h5.1 h5.2 h6.1 h6.2 h7.1 h7.2 h8 h9 l1 l2 I1 I2
  rw [show wordsOf ⟨8,d,i,b,h,gs,p,ws,f⟩=([Aw 8,wd h,Lg]++gs.map wd++[Dc,wd p,sFor])++ws.map wd++[Dc,wd f] by simp [wordsOf,Be,putP,getF,getL,Kd.word]]
  exact this
 ·exact Fe5 d i b h p f gs ws ga wa gc wc w
 ·exact Ei7 d i b h p f gs ws ga wa gc wc w
end
section
def latN (ws:List (List UInt8)) (i:Int):Int:=if 0≤i∧i<ws.length then (numN (ws.getD i.toNat []):Int) else 0
def Zc (ws:List (List UInt8)) (i:Nat):Int:=if i<ws.length then dirN (ws.getD i []) else 0
def Xa (x:List UInt8):Bool:=decide (¬x=Dc)
def Ew (ws:List (List UInt8)) (i:Nat):List (List UInt8):=(ws.drop i).takeWhile Xa
def Us (l:List (List UInt8)):List Int:=l.map fun x=>(numN x:Int)
def i1 (ws:List (List UInt8)):Nat:=3+(Ew ws 3).length
def i2 (ws:List (List UInt8)):Nat:=i1 ws+3+(Ew ws (i1 ws+3)).length
def Ri (k:Int) (ws:List (List UInt8)):Cm :=
 if k=1 then { Dh with kind:=1,dir:=Zc ws 1 } else
 if k=2 then { Dh with kind:=2,who:=latN ws 1,dir:=Zc ws 2 } else
 if k=3 then { Dh with kind:=3,item:=latN ws 1 } else
 if k=4 then { Dh with kind:=4,item:=latN ws 1 } else
 if k=5 then { Dh with kind:=5,item:=latN ws 1,box:=latN ws 3 } else
 if k=6 then { Dh with kind:=6,item:=latN ws 1,box:=latN ws 3 } else
 if k=7 then { Dh with kind:=7,item:=latN ws 1,who:=latN ws 3 } else
 if k=8 then { Dh with kind:=8,who:=latN ws 1,gives:=Us (Ew ws 3),pay:=latN ws (i1 ws+1:Nat),wants:=Us (Ew ws (i1 ws+3)),fee:=latN ws (i2 ws+1:Nat) } else { Dh with kind:=k }
def Kt (ws:List (List UInt8)):Cm:=Ri (Ct (ws.getD 0 [])) ws
theorem Ef0 {n:Int} (h:okN n=true):Xa (wd n)=true:=by
 unfold Xa
 rw [decide_eq_true_eq]
 intro e
 have:=(Rm h).1
 rw [e,Df4] at this;cases this
theorem Cx8 {l:List Int} (h:areB l=true) (r:List (List UInt8)):(l.map wd++Dc :: r).takeWhile Xa=l.map wd:=by
 induction l with
 | nil=>simp [Xa]
 | cons n l ih =>
   simp only [areB,List.all_cons,Bool.and_eq_true] at h
   rw [List.map_cons,List.cons_append,List.takeWhile_cons,if_pos (Ef0 h.1),ih h.2]
theorem Ds7 {l:List Int} (h:areB l=true):Us (l.map wd)=l:=by
 induction l with
 | nil=>rfl
 | cons n l ih =>
   simp only [areB,List.all_cons,Bool.and_eq_true] at h
   show (numN (wd n):Int) :: Us (l.map wd)=_
   rw [(Rm h.1).2,ih h.2]
theorem Bs8 {ws:List (List UInt8)} {i:Nat} {x:List UInt8} (h:ws[i]?=some x):latN ws (i:Int)=(numN x:Int):=by
 obtain ⟨hi,e⟩:=List.getElem?_eq_some_iff.1 h
 unfold latN
 rw [if_pos (by omega)]
 simp [List.getD,h]
theorem Ep3 {c:Cm} (h:mayB c=true):Kt (wordsOf c)=c:=by
 obtain ⟨hk,h2,h3,h4,h5,h6,h7,h8,h9,h10,-,-⟩:=Oa h
 clear h
 obtain ⟨n1,n2⟩:=Ai3 hk
 obtain ⟨d1,d2⟩:=Ef2 h2
 obtain ⟨j1,j2⟩:=Rm h3
 obtain ⟨b1,b2⟩:=Rm h4
 obtain ⟨w1,w2⟩:=Rm h5
 obtain ⟨p1,p2⟩:=Rm h6
 obtain ⟨f1,f2⟩:=Rm h7
 obtain ⟨k,a2,a3,a4,a5,a6,a7,a8,a9⟩:=c
 simp only at *
 have hg:Kt (wordsOf ⟨k,a2,a3,a4,a5,a6,a7,a8,a9⟩)=Ri k (wordsOf ⟨k,a2,a3,a4,a5,a6,a7,a8,a9⟩):=by
  unfold Kt
  rw [show (wordsOf ⟨k,a2,a3,a4,a5,a6,a7,a8,a9⟩).getD 0 []=Aw k from rfl,n2]
 rw [hg]
 clear hg
 rcases Pj hk with rfl|rfl|rfl|rfl|rfl|rfl|rfl|rfl|rfl|rfl
 all_goals
  simp only [ownC,keep,Nf,Cm.mk.injEq] at h10
  simp at h10
 ·simp [Ri,wordsOf,Be,putP,getF,Dh,Kd.word,Zc, *]
 ·simp [Ri,wordsOf,Be,putP,getF,Dh,Kd.word,Zc,latN, *]
 ·simp [Ri,wordsOf,Be,putP,getF,Dh,Kd.word,latN, *]
 ·simp [Ri,wordsOf,Be,putP,getF,Dh,Kd.word,latN, *]
 ·simp [Ri,wordsOf,Be,putP,getF,Dh,Kd.word,latN, *]
 ·simp [Ri,wordsOf,Be,putP,getF,Dh,Kd.word,latN, *]
 ·simp [Ri,wordsOf,Be,putP,getF,Dh,Kd.word,latN, *]
 ·obtain ⟨rfl,rfl,rfl⟩:=h10
  have ew:wordsOf ⟨8,0,0,0,a5,a6,a7,a8,a9⟩=[Aw 8,wd a5,Lg]++(a6.map wd++Dc :: ([wd a7,sFor]++(a8.map wd++Dc :: [wd a9]))):=by
   simp [wordsOf,Be,putP,getF,getL,Kd.word]
  rw [ew]
  have s1:Ew ([Aw 8,wd a5,Lg]++(a6.map wd++Dc :: ([wd a7,sFor]++(a8.map wd++Dc :: [wd a9])))) 3=a6.map wd:=by
   unfold Ew
   rw [show ([Aw 8,wd a5,Lg]++(a6.map wd++Dc :: ([wd a7,sFor]++(a8.map wd++Dc :: [wd a9])))).drop 3=a6.map wd++Dc :: ([wd a7,sFor]++(a8.map wd++Dc :: [wd a9])) from rfl]
   exact Cx8 h8 _
  have e1:i1 ([Aw 8,wd a5,Lg]++(a6.map wd++Dc :: ([wd a7,sFor]++(a8.map wd++Dc :: [wd a9]))))=3+a6.length:=by unfold i1;rw [s1,List.length_map]
  have q1:([Aw 8,wd a5,Lg]++(a6.map wd++Dc :: ([wd a7,sFor]++(a8.map wd++Dc :: [wd a9]))))[3+a6.length+1]?=some (wd a7):=by
   rw [List.getElem?_append_right (by simp;omega),List.getElem?_append_right (by simp;omega)]
   simp
   rw [show 3+a6.length-2-a6.length=1 by omega];rfl
  have dr:([Aw 8,wd a5,Lg]++(a6.map wd++Dc :: ([wd a7,sFor]++(a8.map wd++Dc :: [wd a9])))).drop (3+a6.length+3)=a8.map wd++Dc :: [wd a9]:=by
   rw [show [Aw 8,wd a5,Lg]++(a6.map wd++Dc :: ([wd a7,sFor]++(a8.map wd++Dc :: [wd a9])))=([Aw 8,wd a5,Lg]++a6.map wd++[Dc,wd a7,sFor])++(a8.map wd++Dc :: [wd a9]) by simp]
   exact List.drop_left' (by simp;omega)
  have s2:Ew ([Aw 8,wd a5,Lg]++(a6.map wd++Dc :: ([wd a7,sFor]++(a8.map wd++Dc :: [wd a9])))) (3+a6.length+3)=a8.map wd:=by
   unfold Ew;rw [dr];exact Cx8 h9 _
  have e2:i2 ([Aw 8,wd a5,Lg]++(a6.map wd++Dc :: ([wd a7,sFor]++(a8.map wd++Dc :: [wd a9]))))=3+a6.length+3+a8.length:=by unfold i2;rw [e1,s2,List.length_map]
  have q2:([Aw 8,wd a5,Lg]++(a6.map wd++Dc :: ([wd a7,sFor]++(a8.map wd++Dc :: [wd a9]))))[3+a6.length+3+a8.length+1]?=some (wd a9):=by
   rw [show [Aw 8,wd a5,Lg]++(a6.map wd++Dc :: ([wd a7,sFor]++(a8.map wd++Dc :: [wd a9])))=([Aw 8,wd a5,Lg]++a6.map wd++[Dc,wd a7,sFor]++a8.map wd++[Dc])++[wd a9] by simp]
   rw [List.getElem?_append_right (by simp;omega)]
   rw [show 3+a6.length+3+a8.length+1-([Aw 8,wd a5,Lg]++a6.map wd++[Dc,wd a7,sFor]++a8.map wd++[Dc]).length=0 by simp;omega];rfl
  have q0:([Aw 8,wd a5,Lg]++(a6.map wd++Dc :: ([wd a7,sFor]++(a8.map wd++Dc :: [wd a9]))))[1]?=some (wd a5):=rfl
  have r0:=Bs8 q0
  have r1:=Bs8 q1
  have r2:=Bs8 q2
  generalize [Aw 8,wd a5,Lg]++(a6.map wd++Dc :: ([wd a7,sFor]++(a8.map wd++Dc :: [wd a9])))=W at *
  show (⟨8,0,0,0,latN W 1,Us (Ew W 3),latN W (i1 W+1:Nat),Us (Ew W (i1 W+3)),latN W (i2 W+1:Nat)⟩:Cm)=_
  rw [e1,e2,s1,s2,Ds7 h8,Ds7 h9]
  rw [show latN W 1=a5 from r0.trans w2,r1,r2,p2,f2]
 ·simp [Ri,Dh, *]
 ·simp [Ri,Dh, *]
def refB (ws:List (List UInt8)):Bool:=mayB (Kt ws)&&decide (wordsOf (Kt ws)=ws)
theorem Db3 (ws:List (List UInt8)):refB ws=La ws∧(if refB ws then Kt ws else Dh)=Ng ws:=by
 have e:refB ws=La ws:=by
  rw [Bool.eq_iff_iff,Gv6]
  constructor
  ·intro h
   simp only [refB,Bool.and_eq_true,decide_eq_true_eq] at h
   exact ⟨_,h.1,h.2⟩
  ·rintro ⟨c,h1,rfl⟩
   simp [refB,Ep3 h1,h1]
 refine ⟨e,?_⟩
 rw [e]
 cases h:La ws
 ·unfold Ng;rw [h];rfl
 ·obtain ⟨h1,h2⟩:=Zz h
  have:=Ep3 h1
  rw [h2] at this
  exact this
end
section
open Go.RowKit Go
theorem Fg0 (x:List UInt8) (w:World) (hx:x.length≤9223372036854775807) :
 Calls prog 50 #[.string ⟨x.toArray⟩] w fun e w'=>e=.returned (.tuple #[.int .i64 (numN x:Int),.bool (numB x)])∧w=w' :=
 Ap5 ⟨x.toArray⟩ w (by simpa [ByteArray.size] using hx)
theorem Qt {v:Value} {ws:List (List UInt8)} (i:Int) (w:World) (h:Strs w v ws) (hx:∀x∈ws,x.length≤1000000) (hl:ws.length≤1000000) (i0:0≤i) (i9:i≤5000000) :
 Calls prog 23 #[v,.int .i64 i] w fun e w'=>e=.returned (.int .i64 (latN ws i))∧w=w':=by
 obtain ⟨a,cap,rfl,-,hc⟩:=h
 by_cases hlt:i<ws.length
 ·obtain ⟨j,rfl⟩:∃j:Nat,i=(j:Int):=⟨i.toNat,by omega⟩
  have hj:j<ws.length:=by omega
  rcases hc with hc|⟨b,off,rfl,hb,hc⟩
  ·subst hc;simp at hj
  have hcell:=hc j hj
  have HA:=hid (show latN ws (j:Int)=(numN ws[j]:Int) from Bs8 (List.getElem?_eq_getElem hj))
  have hxl:=hx ws[j] (List.getElem_mem hj)
  generalize ws[j]=x at *
  unfold str at hcell
  clear hc hx
  have hCC:=@cC.eq_1
  go_enter func23,ntmps23
  go_wp2_with fail
  refine (Fg0 x _ (by omega)).mono ?_
  rintro e w' ⟨rfl,rfl⟩
  go_wp2_with fail
  go_ret
  exact ⟨by rw [HA.out];rfl,rfl⟩
 ·have HA:=hid (show latN ws i=0 by unfold latN;rw [if_neg (by omega)])
  clear hc hx
  have hCC:=@cC.eq_1
  go_enter func23,ntmps23
  go_wp2_with fail
  go_ret
  exact ⟨by rw [HA.out];rfl,rfl⟩
end
section
open Go.RowKit Go
def GetG (w:World) (C:Nat) (c:Cm) (ga:Option Addr) (gc:Nat) (wa:Option Addr) (wc:Nat) (W:World):Prop :=
 (Below w.heap.size w W∧w.heap.size+1≤W.heap.size∧Blk W w.heap.size 29 Bp)∧w.heap.size<C∧TSt W C c ga gc wa wc
def GetW (w W:World):Prop:=Below w.heap.size w W∧w.heap.size+1≤W.heap.size∧Blk W w.heap.size 29 Bp
section
variable {w w1 W W':World} {C:Nat} {c:Cm} {ga wa:Option Addr} {gc wc:Nat} {ws:List (List UInt8)}
theorem GetW.start (w:World):GetW w (w.alloc (.cells Bp 29)):=⟨b_a _,by simp,Blk.new _ _ _⟩
theorem GetW.below (h:GetW w W) (hb:Below W.heap.size W W'):GetW w W':=⟨bl h.1 hb,Nat.le_trans h.2.1 hb.size,h.2.2.call hb⟩
theorem GetG.alloc (h:GetW w w1) (hg:c.gives=[]) (hw:c.wants=[]) {cs:Array Value} (hcs:cs=(cC c none 0 none 0)):GetG w w1.heap.size c none 0 none 0 (w1.alloc (.cells cs 29)):=by
 subst hcs
 exact ⟨h.below (b_a _),h.2.1,Blk.new _ _ _,by rw [hg];exact Ae.nil _ _,by rw [hw];exact Ae.nil _ _,fun _=>⟨rfl,rfl⟩,fun _=>⟨rfl,rfl⟩,.inl hg,.inl hw⟩
theorem GetG.below (h:GetG w C c ga gc wa wc W) (hb:Below W.heap.size W W'):GetG w C c ga gc wa wc W':=⟨GetW.below h.1 hb,h.2.1,h.2.2.below hb⟩
theorem Ii (h:GetW w W) {W':World} (hW:Blk W' w.heap.size 29 Bp∧W.grownBy W' (some w.heap.size)) (hr:refB ws=false) :
 Gets w ws (.returned (.tuple #[.agg Bp,.int .i64 2])) W':=by
 obtain ⟨e1,e2⟩:=Db3 ws
 rw [hr] at e1 e2
 exact ⟨Dh,none,0,none,0,e2,by rw [←e1];rfl,Ae.nil _ _,Ae.nil _ _,h.1.grown hW.2 (by have:=h.2.1;omega) (fun k e=>by have:=Option.some.inj e;omega)⟩
theorem Pk (h:GetG w C c ga gc wa wc W) (hc:c=Kt ws) {W':World} (hW:W.grownBy W' (some w.heap.size)) (hr:refB ws=true) :
 Gets w ws (.returned (.tuple #[.agg (cC c ga gc wa wc),.int .i64 0])) W':=by
 obtain ⟨e1,e2⟩:=Db3 ws
 rw [hr,if_pos rfl] at e2
 rw [hr] at e1
 exact ⟨c,ga,gc,wa,wc,hc.trans e2,by rw [←e1];rfl,h.2.2.gi.grown (v:=bv w.heap.size) hW (h.2.2.go.off (Nat.le_of_lt h.2.1)),h.2.2.wi.grown (v:=bv w.heap.size) hW (h.2.2.wo.off (Nat.le_of_lt h.2.1)),h.1.1.grown hW (by have:=h.1.2.1;omega) (fun k e=>by have:=Option.some.inj e;omega)⟩
end
theorem Gp0 (s:ByteArray) (w:World) (hs:s.size≤500000) (x:List UInt8) (hx:(Aq s.data.toList)[0]?=some x) (hk:Ct x=0):Calls prog 8 #[.string s] w (Gets w (Aq s.data.toList)):=by
 have HS:=hid hs
 have HW:=hid (Kz hs)
 have HX:=hid hx
 have HK:=hid hk
 clear hs hx hk
 have P0:=hid (GetW.start w)
 unfold Bp at P0
 have hCC:=@cC.eq_1
 go_enter func8,ntmps8
 go_wp2_with fail
 refine (Fu s _ (by have:=HS.out;omega)).mono ?_
 rintro e w1 ⟨v,rfl,hv,b1⟩
 have P1:=hid (P0.below b1)
 clear P0 b1
 generalize Aq s.data.toList=ws at *
 obtain ⟨a,cap,rfl,hl,hcs⟩:=hv
 have hn:0<ws.length:=(List.getElem?_eq_some_iff.1 HX.out).1
 obtain ⟨b,off,rfl,hb,hcs⟩:∃b off,a=some ⟨b,off,none⟩∧b<w1.heap.size∧∀i (hi:i<ws.length),w1.cell? ⟨b,off+i,none⟩=some (str ws[i]):=by
  rcases hcs with h|h
  ·rw [h] at hn;simp at hn
  ·exact h
 have HV:=hid (show Strs w1 (.slice (some ⟨b,off,none⟩) ws.length cap) ws from ⟨_,_,rfl,hl,.inr ⟨b,off,rfl,hb,hcs⟩⟩)
 have c0:=hcs 0 hn
 rw [Nat.add_zero,show ws[0]=x from (List.getElem?_eq_some_iff.1 HX.out).2] at c0
 unfold str at c0
 have hn0:((ws.length:Int)==0)=false:=by rw [beq_eq_false_iff_ne];omega
 unfold maxLen at hl
 have HL:=hid HW.2
 have HB:=hid hb
 have HCS:=hid hcs
 clear hb hcs
 go_wp2_with fail
 refine (Gs x _).mono ?_
 rintro e w2 ⟨rfl,b2⟩
 rw [HK.out]
 have c1:=fun i hi=>(b2.cell (p:=⟨b,off+i,none⟩) HB.out).trans (HCS.out i hi)
 have P2:=hid (P1.below b2)
 have HV2:=hid (HV.below b2)
 have HC1:=hid c1
 clear b2 c0 hn0 P1 HV c1 HCS
 have HD:=hid (show ws.getD 0 []=x by simp [List.getD,HX.out])
 have HC:=hid (show ⟨0,0,0,0,0,[],0,[],0⟩=Kt ws by unfold Kt;rw [HD.out,HK.out];rfl)
 have G:=hid (GetG.alloc (c:=⟨0,0,0,0,0,[],0,[],0⟩) P2.out rfl rfl (cs:=#[.int .i64 0,.int .i64 0,.int .i64 0,.int .i64 0,.int .i64 0,.slice none 0 0,.int .i64 0,.slice none 0 0,.int .i64 0]) rfl)
 have HV:=hid (HV2.below (b_a (.cells #[.int .i64 0,.int .i64 0,.int .i64 0,.int .i64 0,.int .i64 0,.slice none 0 0,.int .i64 0,.slice none 0 0,.int .i64 0] 29)))
 clear HV2 P2
 go_wp2_with fail
 refine (Bw ⟨0,0,0,0,0,[],0,[],0⟩ none none 0 0 _ G.2.2.gi G.2.2.wi).mono ?_
 rintro e w3 ⟨rfl,b3⟩
 have G3:=hid (G.below b3)
 have HV3:=hid (HV.below b3)
 clear b3
 have hcc:=G3.2.2.blk.cell
 have hres:=G3.1.2.2.cell
 have hfr:=G3.1.2.2.frozen
 unfold Bp at hres
 cases hm:Ak ⟨0,0,0,0,0,[],0,[],0⟩
 ·have HM:=hid ((Ej _).trans hm)
  clear hm
  go_wp2_with fail
  generalize hW:((((((((w3.setCell ⟨w.heap.size,0,none⟩ _).setCell ⟨w.heap.size,1,none⟩ _).setCell ⟨w.heap.size,2,none⟩ _).setCell ⟨w.heap.size,3,none⟩ _).setCell ⟨w.heap.size,4,none⟩ _).setCell ⟨w.heap.size,5,none⟩ _).setCell ⟨w.heap.size,6,none⟩ _).setCell ⟨w.heap.size,7,none⟩ _).setCell ⟨w.heap.size,8,none⟩ _=W'
  obtain ⟨k1,k2⟩:=fin9 G3.1.2.2 _ _ _ _ _ _ _ _ _ hW.symm
  have hc:=k1.cell
  refine bodyPost_ret (v:=.tuple #[.agg #[.int .i64 0,.int .i64 0,.int .i64 0,.int .i64 0,.int .i64 0,.slice none 0 0,.int .i64 0,.slice none 0 0,.int .i64 0],.int .i64 2]) (by simp [results,results8,go_sem,hc]) rfl ?_
  exact Ii G3.1 ⟨k1,k2⟩ (by unfold refB;rw [←HC.out,HM.out];rfl)
 ·have HM:=hid ((Ej _).trans hm)
  clear hm
  go_wp2_with fail
  refine (Hm ⟨0,0,0,0,0,[],0,[],0⟩ none none 0 0 _ HM.out G3.2.2.gi G3.2.2.wi).mono ?_
  rintro e w4 ⟨u,rfl,hu,b4⟩
  have G4:=hid (G3.below b4)
  have HV4:=hid (HV3.below b4)
  have HU:=hid hu
  clear b4 hu hcc hres hfr
  go_wp2_with fail
  refine (Hu _ HU.out HV4.out).mono ?_
  rintro e w5 ⟨rfl,b5⟩
  have G5:=hid (G4.below b5)
  clear b5
  have hcc:=G5.2.2.blk.cell
  have hres:=G5.1.2.2.cell
  have hfr:=G5.1.2.2.frozen
  unfold Bp at hres
  by_cases he:wordsOf ⟨0,0,0,0,0,[],0,[],0⟩=ws
  ·have HE:=hid he
   rw [decide_eq_true he]
   clear he
   go_wp2_with fail
   generalize hW:((((((((w5.setCell ⟨w.heap.size,0,none⟩ _).setCell ⟨w.heap.size,1,none⟩ _).setCell ⟨w.heap.size,2,none⟩ _).setCell ⟨w.heap.size,3,none⟩ _).setCell ⟨w.heap.size,4,none⟩ _).setCell ⟨w.heap.size,5,none⟩ _).setCell ⟨w.heap.size,6,none⟩ _).setCell ⟨w.heap.size,7,none⟩ _).setCell ⟨w.heap.size,8,none⟩ _=W'
   obtain ⟨k1,k2⟩:=fin9 G5.1.2.2 _ _ _ _ _ _ _ _ _ hW.symm
   have hc:=k1.cell
   refine bodyPost_ret (v:=.tuple #[.agg #[.int .i64 0,.int .i64 0,.int .i64 0,.int .i64 0,.int .i64 0,.slice none 0 0,.int .i64 0,.slice none 0 0,.int .i64 0],.int .i64 0]) (by simp [results,results8,go_sem,hc]) rfl ?_
   exact Pk G5.out HC.out k2 (by unfold refB;rw [←HC.out,HM.out,HE.out];simp)
  ·have HE:=hid he
   rw [decide_eq_false he]
   clear he
   go_wp2_with fail
   generalize hW:((((((((w5.setCell ⟨w.heap.size,0,none⟩ _).setCell ⟨w.heap.size,1,none⟩ _).setCell ⟨w.heap.size,2,none⟩ _).setCell ⟨w.heap.size,3,none⟩ _).setCell ⟨w.heap.size,4,none⟩ _).setCell ⟨w.heap.size,5,none⟩ _).setCell ⟨w.heap.size,6,none⟩ _).setCell ⟨w.heap.size,7,none⟩ _).setCell ⟨w.heap.size,8,none⟩ _=W'
   obtain ⟨k1,k2⟩:=fin9 G5.1.2.2 _ _ _ _ _ _ _ _ _ hW.symm
   have hc:=k1.cell
   refine bodyPost_ret (v:=.tuple #[.agg #[.int .i64 0,.int .i64 0,.int .i64 0,.int .i64 0,.int .i64 0,.slice none 0 0,.int .i64 0,.slice none 0 0,.int .i64 0],.int .i64 2]) (by simp [results,results8,go_sem,hc]) rfl ?_
   exact Ii G5.1 ⟨k1,k2⟩ (by unfold refB;rw [←HC.out,decide_eq_false HE.out];simp)
theorem Go1 (s:ByteArray) (w:World) (hs:s.size≤500000) (x:List UInt8) (hx:(Aq s.data.toList)[0]?=some x) (hk:Ct x=9):Calls prog 8 #[.string s] w (Gets w (Aq s.data.toList)):=by
 have HS:=hid hs
 have HW:=hid (Kz hs)
 have HX:=hid hx
 have HK:=hid hk
 clear hs hx hk
 have P0:=hid (GetW.start w)
 unfold Bp at P0
 have hCC:=@cC.eq_1
 go_enter func8,ntmps8
 go_wp2_with fail
 refine (Fu s _ (by have:=HS.out;omega)).mono ?_
 rintro e w1 ⟨v,rfl,hv,b1⟩
 have P1:=hid (P0.below b1)
 clear P0 b1
 generalize Aq s.data.toList=ws at *
 obtain ⟨a,cap,rfl,hl,hcs⟩:=hv
 have hn:0<ws.length:=(List.getElem?_eq_some_iff.1 HX.out).1
 obtain ⟨b,off,rfl,hb,hcs⟩:∃b off,a=some ⟨b,off,none⟩∧b<w1.heap.size∧∀i (hi:i<ws.length),w1.cell? ⟨b,off+i,none⟩=some (str ws[i]):=by
  rcases hcs with h|h
  ·rw [h] at hn;simp at hn
  ·exact h
 have HV:=hid (show Strs w1 (.slice (some ⟨b,off,none⟩) ws.length cap) ws from ⟨_,_,rfl,hl,.inr ⟨b,off,rfl,hb,hcs⟩⟩)
 have c0:=hcs 0 hn
 rw [Nat.add_zero,show ws[0]=x from (List.getElem?_eq_some_iff.1 HX.out).2] at c0
 unfold str at c0
 have hn0:((ws.length:Int)==0)=false:=by rw [beq_eq_false_iff_ne];omega
 unfold maxLen at hl
 have HL:=hid HW.2
 have HB:=hid hb
 have HCS:=hid hcs
 clear hb hcs
 go_wp2_with fail
 refine (Gs x _).mono ?_
 rintro e w2 ⟨rfl,b2⟩
 rw [HK.out]
 have c1:=fun i hi=>(b2.cell (p:=⟨b,off+i,none⟩) HB.out).trans (HCS.out i hi)
 have P2:=hid (P1.below b2)
 have HV2:=hid (HV.below b2)
 have HC1:=hid c1
 clear b2 c0 hn0 P1 HV c1 HCS
 have HD:=hid (show ws.getD 0 []=x by simp [List.getD,HX.out])
 have HC:=hid (show ⟨9,0,0,0,0,[],0,[],0⟩=Kt ws by unfold Kt;rw [HD.out,HK.out];rfl)
 have G:=hid (GetG.alloc (c:=⟨9,0,0,0,0,[],0,[],0⟩) P2.out rfl rfl (cs:=#[.int .i64 9,.int .i64 0,.int .i64 0,.int .i64 0,.int .i64 0,.slice none 0 0,.int .i64 0,.slice none 0 0,.int .i64 0]) rfl)
 have HV:=hid (HV2.below (b_a (.cells #[.int .i64 9,.int .i64 0,.int .i64 0,.int .i64 0,.int .i64 0,.slice none 0 0,.int .i64 0,.slice none 0 0,.int .i64 0] 29)))
 clear HV2 P2
 go_wp2_with fail
 refine (Bw ⟨9,0,0,0,0,[],0,[],0⟩ none none 0 0 _ G.2.2.gi G.2.2.wi).mono ?_
 rintro e w3 ⟨rfl,b3⟩
 have G3:=hid (G.below b3)
 have HV3:=hid (HV.below b3)
 clear b3
 have hcc:=G3.2.2.blk.cell
 have hres:=G3.1.2.2.cell
 have hfr:=G3.1.2.2.frozen
 unfold Bp at hres
 cases hm:Ak ⟨9,0,0,0,0,[],0,[],0⟩
 ·have HM:=hid ((Ej _).trans hm)
  clear hm
  go_wp2_with fail
  generalize hW:((((((((w3.setCell ⟨w.heap.size,0,none⟩ _).setCell ⟨w.heap.size,1,none⟩ _).setCell ⟨w.heap.size,2,none⟩ _).setCell ⟨w.heap.size,3,none⟩ _).setCell ⟨w.heap.size,4,none⟩ _).setCell ⟨w.heap.size,5,none⟩ _).setCell ⟨w.heap.size,6,none⟩ _).setCell ⟨w.heap.size,7,none⟩ _).setCell ⟨w.heap.size,8,none⟩ _=W'
  obtain ⟨k1,k2⟩:=fin9 G3.1.2.2 _ _ _ _ _ _ _ _ _ hW.symm
  have hc:=k1.cell
  refine bodyPost_ret (v:=.tuple #[.agg #[.int .i64 0,.int .i64 0,.int .i64 0,.int .i64 0,.int .i64 0,.slice none 0 0,.int .i64 0,.slice none 0 0,.int .i64 0],.int .i64 2]) (by simp [results,results8,go_sem,hc]) rfl ?_
  exact Ii G3.1 ⟨k1,k2⟩ (by unfold refB;rw [←HC.out,HM.out];rfl)
 ·have HM:=hid ((Ej _).trans hm)
  clear hm
  go_wp2_with fail
  refine (Hm ⟨9,0,0,0,0,[],0,[],0⟩ none none 0 0 _ HM.out G3.2.2.gi G3.2.2.wi).mono ?_
  rintro e w4 ⟨u,rfl,hu,b4⟩
  have G4:=hid (G3.below b4)
  have HV4:=hid (HV3.below b4)
  have HU:=hid hu
  clear b4 hu hcc hres hfr
  go_wp2_with fail
  refine (Hu _ HU.out HV4.out).mono ?_
  rintro e w5 ⟨rfl,b5⟩
  have G5:=hid (G4.below b5)
  clear b5
  have hcc:=G5.2.2.blk.cell
  have hres:=G5.1.2.2.cell
  have hfr:=G5.1.2.2.frozen
  unfold Bp at hres
  by_cases he:wordsOf ⟨9,0,0,0,0,[],0,[],0⟩=ws
  ·have HE:=hid he
   rw [decide_eq_true he]
   clear he
   go_wp2_with fail
   generalize hW:((((((((w5.setCell ⟨w.heap.size,0,none⟩ _).setCell ⟨w.heap.size,1,none⟩ _).setCell ⟨w.heap.size,2,none⟩ _).setCell ⟨w.heap.size,3,none⟩ _).setCell ⟨w.heap.size,4,none⟩ _).setCell ⟨w.heap.size,5,none⟩ _).setCell ⟨w.heap.size,6,none⟩ _).setCell ⟨w.heap.size,7,none⟩ _).setCell ⟨w.heap.size,8,none⟩ _=W'
   obtain ⟨k1,k2⟩:=fin9 G5.1.2.2 _ _ _ _ _ _ _ _ _ hW.symm
   have hc:=k1.cell
   refine bodyPost_ret (v:=.tuple #[.agg #[.int .i64 9,.int .i64 0,.int .i64 0,.int .i64 0,.int .i64 0,.slice none 0 0,.int .i64 0,.slice none 0 0,.int .i64 0],.int .i64 0]) (by simp [results,results8,go_sem,hc]) rfl ?_
   exact Pk G5.out HC.out k2 (by unfold refB;rw [←HC.out,HM.out,HE.out];simp)
  ·have HE:=hid he
   rw [decide_eq_false he]
   clear he
   go_wp2_with fail
   generalize hW:((((((((w5.setCell ⟨w.heap.size,0,none⟩ _).setCell ⟨w.heap.size,1,none⟩ _).setCell ⟨w.heap.size,2,none⟩ _).setCell ⟨w.heap.size,3,none⟩ _).setCell ⟨w.heap.size,4,none⟩ _).setCell ⟨w.heap.size,5,none⟩ _).setCell ⟨w.heap.size,6,none⟩ _).setCell ⟨w.heap.size,7,none⟩ _).setCell ⟨w.heap.size,8,none⟩ _=W'
   obtain ⟨k1,k2⟩:=fin9 G5.1.2.2 _ _ _ _ _ _ _ _ _ hW.symm
   have hc:=k1.cell
   refine bodyPost_ret (v:=.tuple #[.agg #[.int .i64 0,.int .i64 0,.int .i64 0,.int .i64 0,.int .i64 0,.slice none 0 0,.int .i64 0,.slice none 0 0,.int .i64 0],.int .i64 2]) (by simp [results,results8,go_sem,hc]) rfl ?_
   exact Ii G5.1 ⟨k1,k2⟩ (by unfold refB;rw [←HC.out,decide_eq_false HE.out];simp)
theorem Fz3 (s:ByteArray) (w:World) (hs:s.size≤500000) (x:List UInt8) (hx:(Aq s.data.toList)[0]?=some x) (hk:Ct x=10):Calls prog 8 #[.string s] w (Gets w (Aq s.data.toList)):=by
 have HS:=hid hs
 have HW:=hid (Kz hs)
 have HX:=hid hx
 have HK:=hid hk
 clear hs hx hk
 have P0:=hid (GetW.start w)
 unfold Bp at P0
 have hCC:=@cC.eq_1
 go_enter func8,ntmps8
 go_wp2_with fail
 refine (Fu s _ (by have:=HS.out;omega)).mono ?_
 rintro e w1 ⟨v,rfl,hv,b1⟩
 have P1:=hid (P0.below b1)
 clear P0 b1
 generalize Aq s.data.toList=ws at *
 obtain ⟨a,cap,rfl,hl,hcs⟩:=hv
 have hn:0<ws.length:=(List.getElem?_eq_some_iff.1 HX.out).1
 obtain ⟨b,off,rfl,hb,hcs⟩:∃b off,a=some ⟨b,off,none⟩∧b<w1.heap.size∧∀i (hi:i<ws.length),w1.cell? ⟨b,off+i,none⟩=some (str ws[i]):=by
  rcases hcs with h|h
  ·rw [h] at hn;simp at hn
  ·exact h
 have HV:=hid (show Strs w1 (.slice (some ⟨b,off,none⟩) ws.length cap) ws from ⟨_,_,rfl,hl,.inr ⟨b,off,rfl,hb,hcs⟩⟩)
 have c0:=hcs 0 hn
 rw [Nat.add_zero,show ws[0]=x from (List.getElem?_eq_some_iff.1 HX.out).2] at c0
 unfold str at c0
 have hn0:((ws.length:Int)==0)=false:=by rw [beq_eq_false_iff_ne];omega
 unfold maxLen at hl
 have HL:=hid HW.2
 have HB:=hid hb
 have HCS:=hid hcs
 clear hb hcs
 go_wp2_with fail
 refine (Gs x _).mono ?_
 rintro e w2 ⟨rfl,b2⟩
 rw [HK.out]
 have c1:=fun i hi=>(b2.cell (p:=⟨b,off+i,none⟩) HB.out).trans (HCS.out i hi)
 have P2:=hid (P1.below b2)
 have HV2:=hid (HV.below b2)
 have HC1:=hid c1
 clear b2 c0 hn0 P1 HV c1 HCS
 have HD:=hid (show ws.getD 0 []=x by simp [List.getD,HX.out])
 have HC:=hid (show ⟨10,0,0,0,0,[],0,[],0⟩=Kt ws by unfold Kt;rw [HD.out,HK.out];rfl)
 have G:=hid (GetG.alloc (c:=⟨10,0,0,0,0,[],0,[],0⟩) P2.out rfl rfl (cs:=#[.int .i64 10,.int .i64 0,.int .i64 0,.int .i64 0,.int .i64 0,.slice none 0 0,.int .i64 0,.slice none 0 0,.int .i64 0]) rfl)
 have HV:=hid (HV2.below (b_a (.cells #[.int .i64 10,.int .i64 0,.int .i64 0,.int .i64 0,.int .i64 0,.slice none 0 0,.int .i64 0,.slice none 0 0,.int .i64 0] 29)))
 clear HV2 P2
 go_wp2_with fail
 refine (Bw ⟨10,0,0,0,0,[],0,[],0⟩ none none 0 0 _ G.2.2.gi G.2.2.wi).mono ?_
 rintro e w3 ⟨rfl,b3⟩
 have G3:=hid (G.below b3)
 have HV3:=hid (HV.below b3)
 clear b3
 have hcc:=G3.2.2.blk.cell
 have hres:=G3.1.2.2.cell
 have hfr:=G3.1.2.2.frozen
 unfold Bp at hres
 cases hm:Ak ⟨10,0,0,0,0,[],0,[],0⟩
 ·have HM:=hid ((Ej _).trans hm)
  clear hm
  go_wp2_with fail
  generalize hW:((((((((w3.setCell ⟨w.heap.size,0,none⟩ _).setCell ⟨w.heap.size,1,none⟩ _).setCell ⟨w.heap.size,2,none⟩ _).setCell ⟨w.heap.size,3,none⟩ _).setCell ⟨w.heap.size,4,none⟩ _).setCell ⟨w.heap.size,5,none⟩ _).setCell ⟨w.heap.size,6,none⟩ _).setCell ⟨w.heap.size,7,none⟩ _).setCell ⟨w.heap.size,8,none⟩ _=W'
  obtain ⟨k1,k2⟩:=fin9 G3.1.2.2 _ _ _ _ _ _ _ _ _ hW.symm
  have hc:=k1.cell
  refine bodyPost_ret (v:=.tuple #[.agg #[.int .i64 0,.int .i64 0,.int .i64 0,.int .i64 0,.int .i64 0,.slice none 0 0,.int .i64 0,.slice none 0 0,.int .i64 0],.int .i64 2]) (by simp [results,results8,go_sem,hc]) rfl ?_
  exact Ii G3.1 ⟨k1,k2⟩ (by unfold refB;rw [←HC.out,HM.out];rfl)
 ·have HM:=hid ((Ej _).trans hm)
  clear hm
  go_wp2_with fail
  refine (Hm ⟨10,0,0,0,0,[],0,[],0⟩ none none 0 0 _ HM.out G3.2.2.gi G3.2.2.wi).mono ?_
  rintro e w4 ⟨u,rfl,hu,b4⟩
  have G4:=hid (G3.below b4)
  have HV4:=hid (HV3.below b4)
  have HU:=hid hu
  clear b4 hu hcc hres hfr
  go_wp2_with fail
  refine (Hu _ HU.out HV4.out).mono ?_
  rintro e w5 ⟨rfl,b5⟩
  have G5:=hid (G4.below b5)
  clear b5
  have hcc:=G5.2.2.blk.cell
  have hres:=G5.1.2.2.cell
  have hfr:=G5.1.2.2.frozen
  unfold Bp at hres
  by_cases he:wordsOf ⟨10,0,0,0,0,[],0,[],0⟩=ws
  ·have HE:=hid he
   rw [decide_eq_true he]
   clear he
   go_wp2_with fail
   generalize hW:((((((((w5.setCell ⟨w.heap.size,0,none⟩ _).setCell ⟨w.heap.size,1,none⟩ _).setCell ⟨w.heap.size,2,none⟩ _).setCell ⟨w.heap.size,3,none⟩ _).setCell ⟨w.heap.size,4,none⟩ _).setCell ⟨w.heap.size,5,none⟩ _).setCell ⟨w.heap.size,6,none⟩ _).setCell ⟨w.heap.size,7,none⟩ _).setCell ⟨w.heap.size,8,none⟩ _=W'
   obtain ⟨k1,k2⟩:=fin9 G5.1.2.2 _ _ _ _ _ _ _ _ _ hW.symm
   have hc:=k1.cell
   refine bodyPost_ret (v:=.tuple #[.agg #[.int .i64 10,.int .i64 0,.int .i64 0,.int .i64 0,.int .i64 0,.slice none 0 0,.int .i64 0,.slice none 0 0,.int .i64 0],.int .i64 0]) (by simp [results,results8,go_sem,hc]) rfl ?_
   exact Pk G5.out HC.out k2 (by unfold refB;rw [←HC.out,HM.out,HE.out];simp)
  ·have HE:=hid he
   rw [decide_eq_false he]
   clear he
   go_wp2_with fail
   generalize hW:((((((((w5.setCell ⟨w.heap.size,0,none⟩ _).setCell ⟨w.heap.size,1,none⟩ _).setCell ⟨w.heap.size,2,none⟩ _).setCell ⟨w.heap.size,3,none⟩ _).setCell ⟨w.heap.size,4,none⟩ _).setCell ⟨w.heap.size,5,none⟩ _).setCell ⟨w.heap.size,6,none⟩ _).setCell ⟨w.heap.size,7,none⟩ _).setCell ⟨w.heap.size,8,none⟩ _=W'
   obtain ⟨k1,k2⟩:=fin9 G5.1.2.2 _ _ _ _ _ _ _ _ _ hW.symm
   have hc:=k1.cell
   refine bodyPost_ret (v:=.tuple #[.agg #[.int .i64 0,.int .i64 0,.int .i64 0,.int .i64 0,.int .i64 0,.slice none 0 0,.int .i64 0,.slice none 0 0,.int .i64 0],.int .i64 2]) (by simp [results,results8,go_sem,hc]) rfl ?_
   exact Ii G5.1 ⟨k1,k2⟩ (by unfold refB;rw [←HC.out,decide_eq_false HE.out];simp)
end
end Go.Proofs.YtaeclpjofclbeaaGreatDoor
