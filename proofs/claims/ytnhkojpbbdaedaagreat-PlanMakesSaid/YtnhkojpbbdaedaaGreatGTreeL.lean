/- A list of one's own that grows by one element at a time, of whatever cells. -/
import Derived.Test.YtnhkojpbbdaedaaGreatGAs
namespace Go.Proofs.YtnhkojpbbdaedaaGreat
open Go.ChangeShapes Go.WideShapes Go.ChangeAt Go.RowKit Go.Proofs.Tryz
open Lib (hid)
set_option linter.unusedVariables false
set_option maxHeartbeats 2000000
set_option maxRecDepth 100000
section
open Go.RowKit Go
section
variable {α:Type} {P:Program} {W W':World}
theorem Vs {W1 W2:World} {r r1:Option Nat} (h:W.grownBy W1 r) (k:W1.grownBy W2 r1) (hr:r1=r∨∃g,r1=some g∧W.heap.size≤g):W.grownBy W2 r :=
 ⟨k.os.trans h.os,k.tape.trans h.tape,k.output.trans h.output,Nat.le_trans h.size k.size,fun b hb hne=>(k.block b (Nat.lt_of_lt_of_le hb h.size) (fun e=>by
   rcases hr with hr|⟨g,hr,hg⟩
   ·exact hne (by rw [e,hr])
   ·rw [hr] at e;have:=Option.some.inj e;omega)).trans (h.block b hb hne)⟩
def Dt (k:Nat) (e:TypeId) (enc:α→List Value) (n:Nat) (W:World) (v:Value) (xs:List α):Prop:=W.ownsRow n e k v xs.length (xs.flatMap enc)
variable {k n:Nat} {e:TypeId} {enc:α→List Value} {v:Value} {xs:List α}
theorem Dt.nil (W:World):Dt k e enc n W (.slice none 0 0) ([]:List α):=World.ownsRow_nil _ _ _ _
theorem Dt.apart (h:Dt k e enc n W v xs) {g:Nat} (hg:g<n):v.ownBlock≠some g:=by
 rcases h.2 with ⟨rfl,h0⟩|⟨q,c,cur,rfl,hq,_⟩
 ·simp [Value.ownBlock]
 ·simp only [Value.ownBlock,ne_eq,Option.some.injEq];omega
theorem Dt.call (h:Dt k e enc n W v xs) (hb:Below W.heap.size W W'):Dt k e enc n W' v xs:=by
 have hg:W.grownBy W' none:=⟨hb.os,hb.tape,hb.output,hb.size,fun k hk _=>hb.block k hk⟩
 exact World.ownsRow.kept h hg (by cases v.ownBlock<;>simp)
theorem Dt.below (h:Dt k e enc n W v xs) {w:World} (hb:Below w.heap.size w W) (hg:W.grownBy W' v.ownBlock) (hn:w.heap.size≤n):Below w.heap.size w W' :=
 hb.grown hg hb.size (fun q hq=>by
  apply Decidable.byContradiction;intro hc
  exact h.apart (g:=q) (by omega) hq)
theorem Dt.holds (h:Dt k e enc n W v xs) {w:World} {m:Nat} {A:Array Value} (hh:Ac w m A W) (hg:W.grownBy W' v.ownBlock) (hm:m<n) (hn:w.heap.size≤n):Ac w m A W':=by
 refine ⟨h.below hh.1 hg hn,Nat.lt_of_lt_of_le hh.2.1 hg.size,fun i=>?_⟩
 rw [←hh.2.2 i]
 have:=hg.block m hh.2.1 (fun e=>h.apart hm e.symm)
 simp only [World.cell?,this]
theorem Dt.own (h:Dt k e enc n W v xs) (he:∀x,(enc x).length=k):∃a cap,v=.slice a xs.length cap∧OwnR k e enc n W a xs:=by
 rcases h.2 with ⟨rfl,h0⟩|⟨g,c,cur,rfl,hg,hh,hc,hm,hsz,htk⟩
 ·have:xs=[]:=List.eq_nil_of_length_eq_zero h0
  subst this
  exact ⟨none,0,rfl,by simp,.inl ⟨rfl,rfl⟩⟩
 ·refine ⟨_,c,rfl,by omega,.inr ⟨g,cur,rfl,hg,hh,fun i hi j hj=>?_⟩⟩
  have e:(cur.toList.take (xs.length*k))[i*k+j]?=(xs.flatMap enc)[i*k+j]?:=by rw [htk]
  have hlt2:i*k+j<xs.length*k:=by
   have:(i+1)*k≤xs.length*k:=Nat.mul_le_mul (by omega) (Nat.le_refl _)
   rw [Nat.add_mul,Nat.one_mul] at this
   omega
  rw [List.getElem?_take,if_pos hlt2,Ji he xs i hi j hj] at e
  simpa using e
theorem Dt.one {t:TypeId} {bytes:Nat} {z:Value} (hu:P.underlying t=some (.slice e)) (hinfo:(P.info? e).map (fun i=>(i.zero,i.size,i.bytes))=some (some z,k,bytes))
 (hz:z.cells.size=k) (hk:0<k) (hby:bytes≤64) (he:∀x,(enc x).length=k) (hone:∀x,∀u∈enc x,u.oneCell'=true) (h:Dt k e enc n W v xs) (x:α) (hl:xs.length+1≤1000000) (hb:n≤W.heap.size) :
 ∃v' W',(Builtin.append_ #[t,t] t #[v,.slice (some ⟨W.heap.size,0,none⟩) 1 1]).run P (W.alloc (.cells (enc x).toArray e))=.ok v' W'∧Dt k e enc n W' v' (xs++[x])∧W.grownBy W' v.ownBlock:=by
 obtain ⟨i0,hi0,hz0,hz1,hz2⟩:=info_parts hinfo
 obtain ⟨v',W',hr,h1,h2,-,h4⟩:=run_append_own_at (P:=P) (W.alloc (.cells (enc x).toArray e)) n t t e i0 z k bytes hu hi0 hz0 hz1 hz2 hz hk v xs.length (xs.flatMap enc) (World.ownsRow.kept h (World.grownBy_alloc W _ none) (by cases v.ownBlock<;>simp)) ⟨W.heap.size,0,none⟩ 1 1 (enc x) (by rw [he];omega)
  (fun j u hj=>by
    have e:((⟨W.heap.size,0,none⟩:Addr).add j)=⟨W.heap.size,j,none⟩:=by by_cases h0:j=0<;>simp [Addr.add,h0]
    rw [e,World.cell?_alloc_at _ _ _ _ rfl]
    simpa using hj) (hone x) (by unfold maxLen;omega) (Nat.le_trans (Nat.mul_le_mul hl hby) (by decide)) (by simp;omega)
 refine ⟨v',W',hr,?_,Vs (World.grownBy_alloc W _ v.ownBlock) h2 (.inl rfl)⟩
 unfold Dt
 rw [List.length_append,List.flatMap_append]
 simpa using h1
end
def lenV:Value→Nat
 | .slice _ n _=>n
 | _=>0
theorem Dt.len {α:Type} {k n:Nat} {e:TypeId} {enc:α→List Value} {W:World} {v:Value} {xs:List α} (h:Dt k e enc n W v xs):lenV v=xs.length:=by
 rcases h.2 with ⟨rfl,h0⟩|⟨q,c,cur,rfl,hq,_⟩
 ·simp [lenV,h0]
 ·rfl
def seC (s:Sn):List Value:=[.int .i64 s.item,.int .i64 s.kind,.int .i64 s.id]
theorem Rz (x:Sn):(seC x).length=3:=rfl
theorem Bb5 (x:Sn):∀u∈seC x,u.oneCell'=true:=by intro u hu;simp [seC] at hu;rcases hu with rfl|rfl|rfl<;>rfl
theorem Bk6:(prog.info? 148).map (fun i=>(i.zero,i.size,i.bytes))=some (some (.agg #[.int .i64 0,.int .i64 0,.int .i64 0]),3,24):=by kernel_rfl
theorem Uw {w:World} {a:Option Addr} {xs:List Sn} (h:Ar 3 seC w a xs):Bd w a xs:=by
 refine ⟨h.1,h.2.imp id ?_⟩
 rintro ⟨b,off,rfl,hb,hc⟩
 exact ⟨b,off,rfl,hb,fun i hi=>⟨hc i hi 0 (by omega),hc i hi 1 (by omega),hc i hi 2 (by omega)⟩⟩
end
section
theorem Aa6 (x:Wd) (p:Wp) (y:Pl) (w:World) (h:Au w p.wh x.wher) (hl16:x.wher.length≤40):Calls prog 130 #[.agg #[.slice p.d.ex x.d.exits.length p.d.exc,.slice p.d.pl x.d.players.length p.d.plc,.slice p.d.co x.d.coins.length p.d.coc,.slice p.d.it x.d.items.length p.d.itc,.slice p.d.bo x.d.boxes.length p.d.boc,.int .i64 x.d.room,.int .i64 x.d.player,.int .i64 x.d.box,.slice p.at_ x.at_.length p.atc,.slice p.co x.coins.length p.coc,.slice p.wh x.wher.length p.whc],.agg #[.int .i64 y.kind,.int .i64 y.id]] w fun e w'=>∃a cap,e=.returned (.slice a (inN x.wher x.wher.length y).length cap)∧OwnR 1 3 inC w.heap.size w' a (inN x.wher x.wher.length y)∧Below w.heap.size w w':=by
 have H:=hid h
 clear h
 obtain ⟨yk,yi⟩:=y
 have HP:=hid (Ac.pair w #[.slice p.d.ex x.d.exits.length p.d.exc,.slice p.d.pl x.d.players.length p.d.plc,.slice p.d.co x.d.coins.length p.d.coc,.slice p.d.it x.d.items.length p.d.itc,.slice p.d.bo x.d.boxes.length p.d.boc,.int .i64 x.d.room,.int .i64 x.d.player,.int .i64 x.d.box,.slice p.at_ x.at_.length p.atc,.slice p.co x.coins.length p.coc,.slice p.wh x.wher.length p.whc] #[.int .i64 yk,.int .i64 yi] 29 48)
 generalize p.wh=pw at *
 go_enter func130,ntmps130
 go_wp2_with fail
 go_loopw [5,11] (fun v i wr=>∃k:Nat,k≤x.wher.length∧i=.int .i64 k∧Dt 1 3 inC (w.heap.size+2) wr v (inN x.wher k ⟨yk,yi⟩)∧Ac w w.heap.size #[.slice p.d.ex x.d.exits.length p.d.exc,.slice p.d.pl x.d.players.length p.d.plc,.slice p.d.co x.d.coins.length p.d.coc,.slice p.d.it x.d.items.length p.d.itc,.slice p.d.bo x.d.boxes.length p.d.boc,.int .i64 x.d.room,.int .i64 x.d.player,.int .i64 x.d.box,.slice p.at_ x.at_.length p.atc,.slice p.co x.coins.length p.coc,.slice pw x.wher.length p.whc] wr∧Ac w (w.heap.size+1) #[.int .i64 yk,.int .i64 yi] wr) (fun _ i _=>x.wher.length-(intOf i).toNat)
 case atStart=>exact ⟨0,Nat.zero_le _,rfl,Dt.nil _,HP.out.1,HP.out.2⟩
 case round =>
  obtain ⟨k,hk,rfl,hR,h1,h2⟩:=hrel
  have hc1:=h1.2.2
  have hc2:=h2.2.2
  have hl2:=h2.2.1
  have HR:=hid hR
  by_cases hlt:k<x.wher.length
  ·obtain ⟨b,o,hbo,hb,c0,c1⟩:=Au.cells (Ar.below H.out h1.1 (Nat.le_refl _)) hlt
   have HY:=hid (Aq9 (ps:=x.wher) (n:=k) (p:=⟨yk,yi⟩))
   have HN:=hid (Bm4 (ps:=x.wher) (n:=k) (p:=⟨yk,yi⟩))
   have HG:=hid (Bo hlt)
   have H1:=hid h1
   have H2:=hid h2
   have HIL:=hid (Bb7 x.wher k ⟨yk,yi⟩)
   clear H h1 h2 hR
   subst hbo
   generalize x.wher[k]=z at *
   obtain ⟨zk,zi⟩:=z
   simp only at c0 c1
   have hrun:=Ey zk zi yk yi
   have hw:IntKind.i64.wrap ((k:Int)+1)=(k:Int)+1:=IntWalk.i64_in _ (by omega)
   by_cases he:(⟨zk,zi⟩:Pl)=⟨yk,yi⟩
   ·have HX:=hid (HY.out (HG.out.trans he))
    simp only [he,decide_true] at hrun
    clear he HY HN HG
    have R1:=hid (HR.out.call (b_a (.cells #[.int .i64 zk,.int .i64 zi] 48)))
    obtain ⟨v3,W3,hr3,hg3,hb3⟩:=R1.out.one underlying23 Fj rfl (by decide) (by decide) Jl Py (k:Int) (by have:=HIL.out;omega) (by simp;omega)
    have HRN:=hid (show (Builtin.append_ #[23,23] 23 #[_,.slice (some ⟨wr.heap.size+1,0,none⟩) 1 1]).run prog ((wr.alloc (.cells #[.int .i64 zk,.int .i64 zi] 48)).alloc (.cells #[.int .i64 k] 3))=.ok v3 W3 by simpa [inC] using hr3)
    have HG3:=hid hg3
    have HB3:=hid hb3
    have K1:=hid (H1.out.alloc (.cells #[.int .i64 zk,.int .i64 zi] 48))
    have K2:=hid (H2.out.alloc (.cells #[.int .i64 zk,.int .i64 zi] 48))
    clear hr3 hg3 hb3 HR
    go_wp2_with (at_builtin;refine Bb rfl (.tmp 19) (.tmp 21) 23 rfl _ _ v3 W3 rfl rfl HRN.out ?_)
    go_roundw
    case rel=>exact ⟨k+1,by omega,by go_num,by rw [HX.out];exact HG3.out,R1.out.holds K1.out HB3.out (by omega) (by omega),R1.out.holds K2.out HB3.out (by omega) (by omega)⟩
    case measure=>simp [intOf];omega
   ·have HX:=hid (HN.out (by rw [HG.out];exact he))
    simp only [he,decide_false] at hrun
    clear he HY HN HG
    go_wp2_with fail
    go_roundw
    case rel=>exact ⟨k+1,by omega,by go_num,by rw [HX.out];exact HR.out.call (b_a _),H1.out.alloc _,H2.out.alloc _⟩
    case measure=>simp [intOf];omega
  ·have hke:k=x.wher.length:=by omega
   subst hke
   have H1:=hid h1
   obtain ⟨a,cap,rfl,hO⟩:=hR.own Jl
   have HO:=hid (hO.less (m:=w.heap.size) (by omega))
   clear H h1 h2 hR hO HR
   go_wp2_with fail
   go_ret
   exact ⟨_,_,rfl,HO.out,H1.out.1⟩
end
section
theorem Dc8 (x:Ds) (p:Dp) (q:Nat) (hq:q<3) (w:World):Calls prog 129 #[.agg (dC x p),.int .i64 q] w fun e w'=>e=.returned (.int .i64 (Cb x q))∧Below w.heap.size w w':=by
 obtain rfl|rfl|rfl:q=0∨q=1∨q=2:=by omega
 all_goals
  have hWC:=@wC.eq_1
  have hDC:=@dC.eq_1
  go_enter func129,ntmps129
  go_wp2_with fail
  go_ret
  exact ⟨rfl,(Below.refl w.heap.size w).alloc (Nat.le_refl _) _⟩
theorem Lp (x:Wd) (p:Wp) (q:Nat) (i:Int) (hq:q<3) (hcap:0≤Cb x.d q∧Cb x.d q≤64) (w:World) (h:Au w p.wh x.wher) (hl16:x.wher.length≤40):Calls prog 106 #[.agg (wC x p),.agg #[.int .i64 q,.int .i64 i]] w fun e w'=>e=.returned (.int .i64 (Cb x.d q-(x.wher.count ⟨q,i⟩:Nat)))∧Below w.heap.size w w':=by
 have H:=hid h
 clear h
 have HP:=hid (Ac.pair w (wC x p) #[.int .i64 q,.int .i64 i] 29 48)
 have M1:=hid (Dc8 x.d p.d q hq)
 have M2:=hid (Aa6 x p ⟨(q:Int),i⟩)
 have HC:=hid (Bn7 x.wher ⟨(q:Int),i⟩)
 have hcl:=List.count_le_length (a:=(⟨(q:Int),i⟩:Pl)) (l:=x.wher)
 obtain ⟨c,hc⟩:∃c,Cb x.d q=c:=⟨_,rfl⟩
 rw [hc] at M1 hcap
 have HCC:=hid hc
 clear hc
 obtain ⟨n,hn⟩:∃n,(inN x.wher x.wher.length ⟨(q:Int),i⟩).length=n:=⟨_,rfl⟩
 rw [hn] at M2 HC
 have HN:=hid hn
 clear hn
 have hsub:IntKind.i64.wrap (c-(n:Int))=c-(n:Int):=IntWalk.i64_in _ (by have:=HC.out;omega)
 have HF:=hid (show Cb x.d q-(x.wher.count ⟨q,i⟩:Nat)=c-(n:Int) by rw [HCC.out,←HC.out])
 clear hcl HC HCC HN
 have hWC:=@wC.eq_1
 have hDC:=@dC.eq_1
 go_enter func106,ntmps106
 go_wp2_with fail
 generalize ((w.alloc (.cells (wC x p) 29)).alloc (.cells #[.int .i64 q,.int .i64 i] 48))=V1 at *
 have HV:=hid (H.out.below HP.out.1.1 (Nat.le_refl _))
 have KS:Hid (∀w',Below V1.heap.size V1 w'→Below V1.heap.size V1 w'∧(∀i,w'.cell? ⟨w.heap.size,i,none⟩=((wC x p)[i]?:Option Value))∧(∀j,w'.cell? ⟨w.heap.size+1,j,none⟩=(#[.int .i64 q,.int .i64 i][j]?:Option Value))):=hid (fun w' hb=>⟨hb,fun i=>(hb.cell (p:=⟨w.heap.size,i,none⟩) HP.out.1.2.1).trans (HP.out.1.2.2 i),fun i=>(hb.cell (p:=⟨w.heap.size+1,i,none⟩) HP.out.2.2.1).trans (HP.out.2.2.2 i)⟩)
 refine tkS (S:=(fun w'=>Below V1.heap.size V1 w'∧(∀i,w'.cell? ⟨w.heap.size,i,none⟩=((wC x p)[i]?:Option Value))∧(∀j,w'.cell? ⟨w.heap.size+1,j,none⟩=(#[.int .i64 q,.int .i64 i][j]?:Option Value)))) (by (with_reducible exact KS.out _ (Af (Below.refl _ _)))) (fun hHeld=>?_)
 refine tkl [0,1,2,3,5,6] ?_
 iterate 6
  first|refine tW ?_|refine tN ?_
  try go_frame
 refine rdy1 4 (fun K hK=>?_)
 go_simp;refine (M1.out _).mono ?_;rintro e w9 ⟨rfl,hb9⟩;try go_wp2_with fail
 refine hK.out _ _ (by (with_reducible exact KS.out _ (Aa hHeld.1 hHeld.1.size hb9))) (fun hHeld=>?_)
 clear hK K
 try go_frame
 refine rdy1 7 (fun K hK=>?_)
 go_simp;refine (M2.out _ (HV.out.below hHeld.1 (Nat.le_refl _)) hl16).mono ?_;rintro e w9 ⟨a9,c9,rfl,-,hb9⟩;try go_wp2_with fail
 refine hK.out _ _ (by (with_reducible exact KS.out _ (Aa hHeld.1 hHeld.1.size hb9))) (fun hHeld=>?_)
 clear hK K
 try go_frame
 refine tkl [8,9,10] ?_
 iterate 3
  first|refine tW ?_|refine tN ?_
  try go_frame
 refine tkD ?_
 have HE:=hid hHeld.1
 clear hHeld
 go_wp2_with fail
 go_ret
 exact ⟨by rw [HF.out];rfl,Aa HP.out.1.1 HP.out.1.1.size HE.out⟩
end
end Go.Proofs.YtnhkojpbbdaedaaGreat
