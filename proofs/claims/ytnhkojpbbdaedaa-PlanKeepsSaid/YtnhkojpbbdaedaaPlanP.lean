/- plan: changes done in a world of one's own; the map of what does them; draft.do. -/
import Derived.Test.YtnhkojpbbdaedaaPlanD
import Derived.Laws.EntriesVeiled
import Derived.Maps.Own
import Derived.Shelf.Abstract
namespace Go.Proofs.Ytnhkojpbbdaedaa
open Go.ChangeShapes Go.WideShapes Go.ChangeAt Go.RowKit Go.Proofs.Try
open Lib (hid)
set_option linter.unusedVariables false
set_option maxRecDepth 100000
open Go.RowKit Go.ChangeMaps Go.MapKept
def KT (W W':World):Prop:=W.heap.size≤W'.heap.size∧∀(g:Nat) (o:Obj),W.heap[g]?=some o→(∀cs f,o≠.cells cs 3 f∧o≠.cells cs 37 f)→W'.heap[g]?=some o
theorem KT.refl (W:World):KT W W:=⟨Nat.le_refl _,fun _ _ h _=>h⟩
theorem KT.trans {A B C:World} (h:KT A B) (k:KT B C):KT A C:=⟨Nat.le_trans h.1 k.1,fun g o e n=>k.2 g o (h.2 g o e n) n⟩
theorem KT.below {W W':World} (hb:Below W.heap.size W W'):KT W W':=⟨hb.size,fun g o e _=>(hb.block g (Array.getElem?_eq_some_iff.1 e).1).trans e⟩
theorem KT.set {A W:World} (h:KT A W) {b:Nat} {t:TypeId} {cs:Array Value} (hb:Blk W b t cs) (ht:t=3∨t=37) (i:Nat) (v:Value):KT A (W.setCell ⟨b,i,none⟩ v) :=
 ⟨by have:=h.1;simp [World.setCell];omega,fun g o e n=>by
   have e2:=h.2 g o e n
   refine (Below.heap_setCell W ⟨b,i,none⟩ v g (fun hg=>?_)).trans e2
   subst hg
   rw [show W.heap[_]?=_ from hb] at e2
   cases e2
   rcases ht with rfl|rfl
   ·exact (n _ _).1 rfl
   ·exact (n _ _).2 rfl⟩
theorem KT.blk {A W:World} {g:Nat} {t:TypeId} {cs:Array Value} (h:KT A W) (hb:Blk A g t cs) (h1:t≠3) (h2:t≠37):Blk W g t cs :=
 h.2 g _ hb fun cs f=>⟨fun e=>by cases e;exact h1 rfl,fun e=>by cases e;exact h2 rfl⟩
theorem OwnR.blk_ {α:Type} {k:Nat} {e:TypeId} {enc:α→List Value} {n g:Nat} {W:World} {xs:List α} (h:OwnR k e enc n W (some ⟨g,0,none⟩) xs):∃cs,Blk W g e cs:=by
 rcases h.2 with ⟨_,h2⟩|⟨b,bs,h2,_,hb,_⟩
 ·cases h2
 ·cases h2;exact ⟨bs,hb⟩
def Chg (n:Nat) (q:Wp) (y:Wd) (W:World) (e:Ending) (W':World):Prop:=(∃v,e=.returned v)∧Ao n W' q y∧Below n W W'∧KT W W'
theorem seti_any (g len cap k:Nat) (v u:Int) (W:World) (hk:k<len) (hm:len≤maxLen) (hg:g<W.heap.size) (hc:W.cell? ⟨g,k,none⟩=some (.int .i64 u)) (hf:W.frozen? ⟨g,k,none⟩=false) :
 Calls prog 41 #[.slice (some ⟨g,0,none⟩) len cap,.int .i64 (k:Int),.int .i64 v] W fun e W'=>(∃z,e=.returned z)∧W'=W.setCell ⟨g,k,none⟩ (.int .i64 v):=by
 have h0:(0:Int)≤(k:Int):=by omega
 have h1:(k:Int)<(len:Int):=by omega
 have hWC:=@wC.eq_1
 go_enter func41,ntmps41
 go_wp2_with fail
 refine bodyPost_end (results_none rfl _ _ _) rfl ?_
 exact ⟨⟨_,rfl⟩,rfl⟩
theorem setp_any (g len cap k:Nat) (v u:Pl) (W:World) (hk:k<len) (hm:len≤maxLen) (hg:g<W.heap.size) (hc:W.cell? ⟨g,k*2,none⟩=some (.int .i64 u.kind)) (hd:W.cell? ⟨g,k*2+1,none⟩=some (.int .i64 u.id)) (hf:∀r,W.frozen? ⟨g,r,none⟩=false) :
 Calls prog 42 #[.slice (some ⟨g,0,none⟩) len cap,.int .i64 (k:Int),.agg #[.int .i64 v.kind,.int .i64 v.id]] W fun e W'=>(∃z,e=.returned z)∧W'=((W.alloc (.cells #[.int .i64 v.kind,.int .i64 v.id] 37)).setCell ⟨g,k*2,none⟩ (.int .i64 v.kind)).setCell ⟨g,k*2+1,none⟩ (.int .i64 v.id):=by
 have h0:(0:Int)≤(k:Int):=by omega
 have h1:(k:Int)<(len:Int):=by omega
 have hn:g≠W.heap.size:=by omega
 have hn2:W.heap.size≠g:=by omega
 obtain ⟨vk,vi⟩:=v
 have hWC:=@wC.eq_1
 go_enter func42,ntmps42
 go_wp2_with fail
 refine bodyPost_end (results_none rfl _ _ _) rfl ?_
 exact ⟨⟨_,rfl⟩,rfl⟩
section
variable (n:Nat) (x:Wd) (q:Wp) (k:Nat) (W:World) (ho:Ao n W q x) (hn:n≤W.heap.size)
include ho hn
theorem Bm0 (hk:k<x.at_.length) (v pk pi:Int):Calls prog 38 #[.agg (wC x q),.agg #[.int .i64 0,.int .i64 (k:Int),.int .i64 v,.int .i64 pk,.int .i64 pi]] W (Chg n q ⟨x.d,x.at_.set k v,x.coins,x.wher⟩ W):=by
 obtain ⟨qd,qa,qac,qk,qkc,qw,qwc⟩:=q
 have b0:=(((Below.refl W.heap.size W).alloc (Nat.le_refl _) (.cells (wC x ⟨qd,qa,qac,qk,qkc,qw,qwc⟩) 72)).alloc (by simp) (.cells #[.int .i64 0,.int .i64 (k:Int),.int .i64 v,.int .i64 pk,.int .i64 pi] 39))
 obtain ⟨g,hqg,hg0,hg1,cA,fA,hput⟩:=(ho.call b0).putAt hk
 simp only at hqg
 subst hqg
 have CA:=hid cA
 have FA:=hid fA
 have G0:=hid hg0
 have G1:=hid hg1
 have HPT:=hid hput
 clear cA fA hg0 hg1 hput
 have C0:=hid (Two.start 72 39 W (wC x ⟨qd,some ⟨g,0,none⟩,qac,qk,qkc,qw,qwc⟩) #[.int .i64 0,.int .i64 (k:Int),.int .i64 v,.int .i64 pk,.int .i64 pi])
 clear b0
 have hm:x.at_.length≤maxLen:=ho.world.at_.len
 obtain ⟨m1,m2,m3,_,_,_,_,-,-,ha,-,hc,-,hw⟩:=ho.ex
 have HOO:=hid ha
 have HO:=hid (ho.call C0.out.b)
 have HK:=hid hk
 have HM:=hid hm
 have HN:=hid hn
 clear ho ha hc hw hm hn
 have hWC:=@wC.eq_1
 go_enter func38,ntmps38
 go_wp2_with fail
 obtain ⟨cs,hb⟩:=HOO.out.blk_
 have HBK:=hid (hb.call C0.out.b)
 refine (seti_any g _ _ k v _ _ HK.out HM.out G1.out CA.out FA.out).mono ?_
 rintro e w1 ⟨⟨z,rfl⟩,rfl⟩
 have HP:=hid (HPT.out v)
 clear hb
 go_wp2_with fail
 refine bodyPost_end (results_none rfl _ _ _) rfl ?_
 exact ⟨⟨_,rfl⟩,HP.out,(C0.out.b.mono HN.out).setCell G0.out _,(KT.below C0.out.b).set HBK.out (.inl rfl) _ _⟩
theorem Aq7 (hk:k<x.coins.length) (v pk pi:Int):Calls prog 39 #[.agg (wC x q),.agg #[.int .i64 1,.int .i64 (k:Int),.int .i64 v,.int .i64 pk,.int .i64 pi]] W (Chg n q ⟨x.d,x.at_,x.coins.set k v,x.wher⟩ W):=by
 obtain ⟨qd,qa,qac,qk,qkc,qw,qwc⟩:=q
 have b0:=(((Below.refl W.heap.size W).alloc (Nat.le_refl _) (.cells (wC x ⟨qd,qa,qac,qk,qkc,qw,qwc⟩) 72)).alloc (by simp) (.cells #[.int .i64 1,.int .i64 (k:Int),.int .i64 v,.int .i64 pk,.int .i64 pi] 39))
 obtain ⟨g,hqg,hg0,hg1,cA,fA,hput⟩:=(ho.call b0).putCo hk
 simp only at hqg
 subst hqg
 have CA:=hid cA
 have FA:=hid fA
 have G0:=hid hg0
 have G1:=hid hg1
 have HPT:=hid hput
 clear cA fA hg0 hg1 hput
 have C0:=hid (Two.start 72 39 W (wC x ⟨qd,qa,qac,some ⟨g,0,none⟩,qkc,qw,qwc⟩) #[.int .i64 1,.int .i64 (k:Int),.int .i64 v,.int .i64 pk,.int .i64 pi])
 clear b0
 have hm:x.coins.length≤maxLen:=ho.world.co.len
 obtain ⟨m1,m2,m3,_,_,_,_,-,-,ha,-,hc,-,hw⟩:=ho.ex
 have HOO:=hid hc
 have HO:=hid (ho.call C0.out.b)
 have HK:=hid hk
 have HM:=hid hm
 have HN:=hid hn
 clear ho ha hc hw hm hn
 have hWC:=@wC.eq_1
 go_enter func39,ntmps39
 go_wp2_with fail
 obtain ⟨cs,hb⟩:=HOO.out.blk_
 have HBK:=hid (hb.call C0.out.b)
 refine (seti_any g _ _ k v _ _ HK.out HM.out G1.out CA.out FA.out).mono ?_
 rintro e w1 ⟨⟨z,rfl⟩,rfl⟩
 have HP:=hid (HPT.out v)
 clear hb
 go_wp2_with fail
 refine bodyPost_end (results_none rfl _ _ _) rfl ?_
 exact ⟨⟨_,rfl⟩,HP.out,(C0.out.b.mono HN.out).setCell G0.out _,(KT.below C0.out.b).set HBK.out (.inl rfl) _ _⟩
theorem lay_any (hk:k<x.wher.length) (v:Int) (y:Pl):Calls prog 40 #[.agg (wC x q),.agg #[.int .i64 2,.int .i64 (k:Int),.int .i64 v,.int .i64 y.kind,.int .i64 y.id]] W (Chg n q ⟨x.d,x.at_,x.coins,x.wher.set k y⟩ W):=by
 obtain ⟨qd,qa,qac,qk,qkc,qw,qwc⟩:=q
 have b0:=(((Below.refl W.heap.size W).alloc (Nat.le_refl _) (.cells (wC x ⟨qd,qa,qac,qk,qkc,qw,qwc⟩) 72)).alloc (by simp) (.cells #[.int .i64 2,.int .i64 (k:Int),.int .i64 v,.int .i64 y.kind,.int .i64 y.id] 39))
 obtain ⟨g,hqg,hg0,hg1,⟨cA,cB⟩,fA,-⟩:=(ho.call b0).putPlace hk
 simp only at hqg
 subst hqg
 have CA:=hid cA
 have CB:=hid cB
 have FA:=hid fA
 have G0:=hid hg0
 have G1:=hid hg1
 clear cA cB fA hg0 hg1
 have C0:=hid (Two.start 72 39 W (wC x ⟨qd,qa,qac,qk,qkc,some ⟨g,0,none⟩,qwc⟩) #[.int .i64 2,.int .i64 (k:Int),.int .i64 v,.int .i64 y.kind,.int .i64 y.id])
 clear b0
 have hm:x.wher.length≤maxLen:=ho.world.wh.len
 obtain ⟨m1,m2,m3,_,_,_,_,-,-,ha,-,hc,-,hw⟩:=ho.ex
 have HOO:=hid hw
 have HO:=hid (ho.call C0.out.b)
 have HK:=hid hk
 have HM:=hid hm
 have HN:=hid hn
 clear ho ha hc hw hm hn
 have hWC:=@wC.eq_1
 go_enter func40,ntmps40
 go_wp2_with fail
 obtain ⟨cs,hb⟩:=HOO.out.blk_
 have HBK:=hid (hb.call C0.out.b)
 refine (setp_any g _ _ k y _ _ HK.out HM.out G1.out CA.out CB.out FA.out).mono ?_
 rintro e w1 ⟨⟨z,rfl⟩,rfl⟩
 obtain ⟨g',hqg',-,-,-,-,hput⟩:=(HO.out.alloc' (.cells #[.int .i64 y.kind,.int .i64 y.id] 37)).putPlace HK.out
 obtain rfl:g'=g:=by simpa using hqg'.symm
 have HP:=hid (hput y)
 have HBL:=hid (C0.out.b.alloc C0.out.b.size (.cells #[.int .i64 y.kind,.int .i64 y.id] 37))
 have HBB:=hid (HBK.out.alloc (.cells #[.int .i64 y.kind,.int .i64 y.id] 37))
 clear hput hb
 go_wp2_with fail
 refine bodyPost_end (results_none rfl _ _ _) rfl ?_
 exact ⟨⟨_,rfl⟩,HP.out,((HBL.out.mono HN.out).setCell G0.out _).setCell G0.out _,((KT.below HBL.out).set HBB.out (.inr rfl) _ _).set (HBB.out.set_ _ _) (.inr rfl) _ _⟩
end
end Go.Proofs.Ytnhkojpbbdaedaa
