/- Worlds: descriptions that may be, worlds that are right, and the same: plain mathematics. -/
import Derived.Test.YtaeclpjofclbeaaDoorGMem
import Derived.Test.YtaeclpjofclbeaaDoorCoin
import Derived.Deep.Slices
import Derived.Deep.Fields
import Derived.ChangeArms
import Derived.Lib.SmallJoins
import Derived.Laws.IdiomArrays
import Derived.BigQuiet
namespace Go.Proofs.YtaeclpjofclbeaaDoor
open Go.ChangeShapes Go.WideShapes Go.ChangeAt Go.RowKit Go.Proofs.Tryd
open Lib (hid)
set_option linter.unusedVariables false
set_option maxRecDepth 100000
section
structure Ex where
 n:Int
 e:Int
 s:Int
 w:Int
deriving DecidableEq
structure Pl where
 kind:Int
 id:Int
deriving DecidableEq
structure Ds where
 exits:List Ex
 players:List Int
 coins:List Int
 items:List Int
 boxes:List Bool
 room:Int
 player:Int
 box:Int
deriving DecidableEq
structure Wd where
 d:Ds
 at_:List Int
 coins:List Int
 wher:List Pl
deriving DecidableEq
def Ce7:Ds:=⟨[],[],[],[],[],0,0,0⟩
def Cw8:Wd:=⟨Ce7,[],[],[]⟩
def inB (t r:Int):Bool:=decide (0≤t)&&decide (t<r)
def toB (r t:Int):Bool:=decide (t=-1)||inB t r
def exB (r:Int) (e:Ex):Bool:=toB r e.n&&(toB r e.e&&(toB r e.s&&toB r e.w))
def ofB (xs:List Int) (r:Int):Bool:=xs.all fun n=>inB n r
def Kk (xs:List Int):Bool:=xs.all isB
def Oy (es:List Ex):Bool:=decide (1≤es.length)&&(decide (es.length≤8)&&es.all (exB es.length))
def Dr (d:Ds) (rooms coins:List Int):Bool:=decide (rooms.length=d.players.length)&&(decide (coins.length=d.players.length)&&(ofB rooms d.exits.length&&Kk coins))
def Qp (d:Ds):Bool:=decide (1≤d.players.length)&&(decide (d.players.length≤6)&&Dr d d.players d.coins)
def capB (n:Int):Bool:=decide (0≤n)&&decide (n≤64)
def Ot (xs:List Int):Bool:=xs.all capB
def Bu (xs:List Int):List Pl:=xs.map fun r=>⟨0,r⟩
def Cb (d:Ds) (k:Int):Int:=if k=0 then d.room else if k=1 then d.player else d.box
def fitB (d:Ds) (ps:List Pl):Bool:=ps.all fun p=>decide (((ps.count p:Nat):Int)≤Cb d p.kind)
def Iw (d:Ds):Bool:=decide (d.items.length≤16)&&(decide (d.boxes.length=d.items.length)&&(ofB d.items d.exits.length&&fitB d (Bu d.items)))
def mayD (d:Ds):Bool:=Oy d.exits&&(Qp d&&(Ot [d.room,d.player,d.box]&&Iw d))
def Cw (d:Ds) (p:Pl):Bool :=
 if p.kind=0 then inB p.id d.exits.length
 else if p.kind=1 then inB p.id d.players.length
 else if p.kind=2 then inB p.id d.boxes.length&&d.boxes.getD p.id.toNat false
 else false
def Dv (d:Ds) (ps:List Pl):Bool:=decide (ps.length=d.items.length)&&ps.all (Cw d)
def par (ps:List Pl) (p:Pl):Pl:=ps.getD p.id.toNat ⟨0,0⟩
def Gu (ps:List Pl):Nat→Pl→Bool
 | 0,p=>decide (p.kind≠2)
 | k+1,p=>decide (p.kind≠2)||Gu ps k (par ps p)
def Sk (ps:List Pl):Bool:=ps.all (Gu ps 4)
def Ai (w:Wd):Bool:=mayD w.d&&(Dr w.d w.at_ w.coins&&(Dv w.d w.wher&&(Sk w.wher&&fitB w.d w.wher)))
def newW (d:Ds):Wd:=⟨d,d.players,d.coins,Bu d.items⟩
theorem Bi (t r:Int):inB t r=true↔(0≤t∧t<r):=by simp [inB]
theorem Cs7 (r t:Int):toB r t=true↔(t=-1∨(0≤t∧t<r)):=by simp [toB,inB]
theorem Ux (xs:List Int) (r:Int):ofB xs r=true↔∀n∈xs,0≤n∧n<r:=by simp [ofB,inB]
theorem Cb8 (n:Int):isB n=true↔(0≤n∧n≤1073741824):=by unfold isB;simp
theorem Wl (xs:List Int):Kk xs=true↔∀n∈xs,0≤n∧n≤1073741824:=by simp [Kk,Cb8]
theorem Ch {α:Type} (f:α→Bool) {xs:List α} {k:Nat} (hk:k<xs.length) (h:(xs.take k).all f=true) (hf:f xs[k]=true):(xs.take (k+1)).all f=true:=by
 rw [List.take_succ_eq_append_getElem hk,List.all_append,h];simp [hf]
theorem Ht {α:Type} (f:α→Bool) {xs:List α} {k:Nat} (hk:k<xs.length) (hf:f xs[k]=false):xs.all f=false:=by
 rw [Bool.eq_false_iff];intro h
 have:=List.all_eq_true.1 h _ (List.getElem_mem hk)
 rw [hf] at this;cases this
theorem Ff {α:Type} (f:α→Bool) {xs:List α} (h:(xs.take xs.length).all f=true):xs.all f=true:=by simpa using h
def dpt (ps:List Pl):Nat→Pl→Option Nat
 | 0,p=>if p.kind=2 then none else some 0
 | k+1,p=>if p.kind=2 then (dpt ps k (par ps p)).map (·+1) else some 0
def Ir (ps:List Pl) (p:Pl):Nat:=(dpt ps 50 p).getD 99
theorem Ag8 (ps:List Pl):∀(k:Nat) (p:Pl) (m:Nat),dpt ps k p=some m→m≤k
 | 0,p,m,h=>by simp only [dpt] at h;split at h<;>simp at h;omega
 | k+1,p,m,h=>by
   simp only [dpt] at h
   split at h
   ·obtain ⟨j,hj,rfl⟩:=Option.map_eq_some_iff.1 h
    have:=Ag8 ps k _ j hj
    omega
   ·simp at h;omega
theorem Uq (ps:List Pl):∀(k:Nat) (p:Pl) (m j:Nat),dpt ps k p=some m→k≤j→dpt ps j p=some m
 | 0,p,m,j,h,_=>by
   simp only [dpt] at h
   split at h
   ·cases h
   ·rename_i hn
    cases j<;>simp [dpt,hn,←Option.some.inj h]
 | k+1,p,m,j,h,hj=>by
   cases j with
   | zero=>omega
   | succ j =>
     simp only [dpt] at h ⊢
     split at h
     ·rename_i hp
      obtain ⟨i,hi,rfl⟩:=Option.map_eq_some_iff.1 h
      rw [if_pos hp,Uq ps k _ i j hi (by omega)];rfl
     ·rename_i hp;rw [if_neg hp];exact h
theorem Ao5 (ps:List Pl):∀(k:Nat) (p:Pl) (m:Nat),dpt ps k p=some m→dpt ps m p=some m
 | 0,p,m,h=>by
   have:=Ag8 ps 0 p m h
   obtain rfl:m=0:=by omega
   exact h
 | k+1,p,m,h=>by
   simp only [dpt] at h
   split at h
   ·rename_i hp
    obtain ⟨j,hj,rfl⟩:=Option.map_eq_some_iff.1 h
    simp only [dpt]
    rw [if_pos hp,Ao5 ps k _ j hj];rfl
   ·rename_i hp
    have:=Option.some.inj h
    subst this
    simp [dpt,hp]
theorem Vy (ps:List Pl):∀(k:Nat) (p:Pl),Gu ps k p=(dpt ps k p).isSome
 | 0,p=>by by_cases h:p.kind=2<;>simp [Gu,dpt,h]
 | k+1,p=>by by_cases h:p.kind=2<;>simp [Gu,dpt,h,Vy ps k]
theorem Bj0 (ps:List Pl) (p:Pl):Gu ps 4 p=decide (Ir ps p≤4):=by
 rw [Vy]
 cases h:dpt ps 4 p with
 | some m =>
   have h2:=Uq ps 4 p m 50 h (by omega)
   have:=Ag8 ps 4 p m h
   simp [Ir,h2,this]
 | none =>
   cases h3:dpt ps 50 p with
   | none=>simp [Ir,h3]
   | some m =>
     have h4:=Ao5 ps 50 p m h3
     have h5:¬m≤4:=fun hm=>by rw [Uq ps m p m 4 h4 hm] at h;cases h
     simp [Ir,h3,h5]
end
section
def Ar {α:Type} (k:Nat) (enc:α→List Value) (w:World) (a:Option Addr) (xs:List α):Prop :=
 xs.length≤maxLen∧(xs=[]∨∃b off,a=some ⟨b,off,none⟩∧b<w.heap.size∧∀i (hi:i<xs.length) j,j<k→w.cell? ⟨b,off+i*k+j,none⟩=(enc xs[i])[j]?)
section
variable {α:Type} {k:Nat} {enc:α→List Value} {w w':World} {a:Option Addr} {xs:List α}
theorem Ar.below (h:Ar k enc w a xs) {B:Nat} (hb:Below B w w') (hB:w.heap.size≤B):Ar k enc w' a xs:=by
 obtain ⟨hl,h⟩:=h
 refine ⟨hl,?_⟩
 rcases h with h|⟨b,off,rfl,hb2,hc⟩
 ·exact .inl h
 ·exact .inr ⟨b,off,rfl,by have:=hb.size;omega,fun i hi j hj=>(hb.cell (p:=⟨b,off+i*k+j,none⟩) (by show b<B;omega)).trans (hc i hi j hj)⟩
theorem Ar.call (h:Ar k enc w a xs) (hb:Below w.heap.size w w'):Ar k enc w' a xs:=h.below hb lr0
theorem Ar.alloc (h:Ar k enc w a xs) (o:Obj):Ar k enc (w.alloc o) a xs:=h.below (b_a _) lr0
theorem Ar.nil (w:World) (a:Option Addr):Ar k enc w a ([]:List α):=⟨by simp,.inl rfl⟩
theorem Ar.len (h:Ar k enc w a xs):xs.length≤9223372036854775807:=by
 have:=h.1;unfold maxLen at this;omega
theorem Ar.at_ (h:Ar k enc w a xs) {n:Nat} (hn:n<xs.length):∃b off,a=some ⟨b,off,none⟩∧b<w.heap.size∧∀i (hi:i<xs.length) j,j<k→w.cell? ⟨b,off+i*k+j,none⟩=(enc xs[i])[j]?:=by
 rcases h.2 with h|h
 ·subst h;simp at hn
 ·exact h
theorem Ar.below_far (h:Ar k enc w a xs) {r:Nat} {W:World} (hb:∀b,b≠r→b<w.heap.size→W.heap[b]?=w.heap[b]?) (hs:w.heap.size≤W.heap.size) (hn:∀p,a=some p→p.block≠r):Ar k enc W a xs:=by
 obtain ⟨hl,h⟩:=h
 refine ⟨hl,?_⟩
 rcases h with h|⟨b,off,rfl,hb2,hc⟩
 ·exact .inl h
 ·refine .inr ⟨b,off,rfl,by omega,fun i hi j hj=>?_⟩
  rw [←hc i hi j hj]
  show (match W.heap[b]? with|some (.cells cs _ _)=>_|_=>_)=_
  rw [hb b (hn _ rfl) hb2]
  rfl
end
def exC (e:Ex):List Value:=[.int .i64 e.n,.int .i64 e.e,.int .i64 e.s,.int .i64 e.w]
def plC (p:Pl):List Value:=[.int .i64 p.kind,.int .i64 p.id]
def blC (b:Bool):List Value:=[.bool b]
def inC (n:Int):List Value:=[.int .i64 n]
abbrev Qu (w:World) (a:Option Addr) (xs:List Ex):Prop:=Ar 4 exC w a xs
abbrev Au (w:World) (a:Option Addr) (xs:List Pl):Prop:=Ar 2 plC w a xs
abbrev Mr (w:World) (a:Option Addr) (xs:List Bool):Prop:=Ar 1 blC w a xs
theorem Qu.cells {w:World} {a:Option Addr} {xs:List Ex} (h:Qu w a xs) {k:Nat} (hk:k<xs.length):∃b off,a=some ⟨b,off,none⟩∧b<w.heap.size ∧
 w.cell? ⟨b,off+k*4,none⟩=some (.int .i64 xs[k].n)∧w.cell? ⟨b,off+k*4+1,none⟩=some (.int .i64 xs[k].e)∧w.cell? ⟨b,off+k*4+2,none⟩=some (.int .i64 xs[k].s)∧w.cell? ⟨b,off+k*4+3,none⟩=some (.int .i64 xs[k].w):=by
 obtain ⟨b,off,rfl,hb,hc⟩:=h.at_ hk
 exact ⟨b,off,rfl,hb,hc k hk 0 (by omega),hc k hk 1 (by omega),hc k hk 2 (by omega),hc k hk 3 (by omega)⟩
theorem Au.cells {w:World} {a:Option Addr} {xs:List Pl} (h:Au w a xs) {k:Nat} (hk:k<xs.length):∃b off,a=some ⟨b,off,none⟩∧b<w.heap.size ∧
 w.cell? ⟨b,off+k*2,none⟩=some (.int .i64 xs[k].kind)∧w.cell? ⟨b,off+k*2+1,none⟩=some (.int .i64 xs[k].id):=by
 obtain ⟨b,off,rfl,hb,hc⟩:=h.at_ hk
 exact ⟨b,off,rfl,hb,hc k hk 0 (by omega),hc k hk 1 (by omega)⟩
theorem Mr.cells {w:World} {a:Option Addr} {xs:List Bool} (h:Mr w a xs) {k:Nat} (hk:k<xs.length):∃b off,a=some ⟨b,off,none⟩∧b<w.heap.size∧w.cell? ⟨b,off+k,none⟩=some (.bool xs[k]):=by
 obtain ⟨b,off,rfl,hb,hc⟩:=h.at_ hk
 exact ⟨b,off,rfl,hb,by have:=hc k hk 0 (by omega);simpa [blC] using this⟩
theorem Av {w:World} {a:Option Addr} {xs:List Int}:Ae w a xs↔Ar 1 inC w a xs:=by
 unfold Ae Ar
 constructor
 ·rintro ⟨hl,h⟩
  refine ⟨hl,h.imp id ?_⟩
  rintro ⟨b,off,rfl,hb,hc⟩
  refine ⟨b,off,rfl,hb,fun i hi j hj=>?_⟩
  obtain rfl:j=0:=by omega
  simpa [inC] using hc i hi
 ·rintro ⟨hl,h⟩
  refine ⟨hl,h.imp id ?_⟩
  rintro ⟨b,off,rfl,hb,hc⟩
  refine ⟨b,off,rfl,hb,fun i hi=>?_⟩
  simpa [inC] using hc i hi 0 (by omega)
theorem Ae.call {w w':World} {a:Option Addr} {xs:List Int} (h:Ae w a xs) (hb:Below w.heap.size w w'):Ae w' a xs:=h.below hb lr0
structure Dp where
 ex:Option Addr
 exc:Nat
 pl:Option Addr
 plc:Nat
 co:Option Addr
 coc:Nat
 it:Option Addr
 itc:Nat
 bo:Option Addr
 boc:Nat
structure Wp where
 d:Dp
 at_:Option Addr
 atc:Nat
 co:Option Addr
 coc:Nat
 wh:Option Addr
 whc:Nat
def Bb1:Dp:=⟨none,0,none,0,none,0,none,0,none,0⟩
def Bo7:Wp:=⟨Bb1,none,0,none,0,none,0⟩
abbrev wC (x:Wd) (p:Wp):Array Value:=#[.slice p.d.ex x.d.exits.length p.d.exc,.slice p.d.pl x.d.players.length p.d.plc,.slice p.d.co x.d.coins.length p.d.coc,.slice p.d.it x.d.items.length p.d.itc,.slice p.d.bo x.d.boxes.length p.d.boc,.int .i64 x.d.room,.int .i64 x.d.player,.int .i64 x.d.box,.slice p.at_ x.at_.length p.atc,.slice p.co x.coins.length p.coc,.slice p.wh x.wher.length p.whc]
abbrev dC (d:Ds) (p:Dp):Array Value:=#[.slice p.ex d.exits.length p.exc,.slice p.pl d.players.length p.plc,.slice p.co d.coins.length p.coc,.slice p.it d.items.length p.itc,.slice p.bo d.boxes.length p.boc,.int .i64 d.room,.int .i64 d.player,.int .i64 d.box]
abbrev zC:Array Value:=#[.slice none 0 0,.slice none 0 0,.slice none 0 0,.slice none 0 0,.slice none 0 0,.int .i64 0,.int .i64 0,.int .i64 0,.slice none 0 0,.slice none 0 0,.slice none 0 0]
structure Ce (w:World) (p:Dp) (d:Ds):Prop where
 ex:Qu w p.ex d.exits
 pl:Ae w p.pl d.players
 co:Ae w p.co d.coins
 it:Ae w p.it d.items
 bo:Mr w p.bo d.boxes
structure Ab (w:World) (p:Wp) (x:Wd):Prop where
 d:Ce w p.d x.d
 at_:Ae w p.at_ x.at_
 co:Ae w p.co x.coins
 wh:Au w p.wh x.wher
theorem Ce.below {w w':World} {p:Dp} {d:Ds} (h:Ce w p d) {B:Nat} (hb:Below B w w') (hB:w.heap.size≤B):Ce w' p d :=
 ⟨h.ex.below hb hB,h.pl.below hb hB,h.co.below hb hB,h.it.below hb hB,h.bo.below hb hB⟩
theorem Ce.call {w w':World} {p:Dp} {d:Ds} (h:Ce w p d) (hb:Below w.heap.size w w'):Ce w' p d:=h.below hb lr0
theorem Ab.below {w w':World} {p:Wp} {x:Wd} (h:Ab w p x) {B:Nat} (hb:Below B w w') (hB:w.heap.size≤B):Ab w' p x :=
 ⟨h.d.below hb hB,h.at_.below hb hB,h.co.below hb hB,h.wh.below hb hB⟩
theorem Ab.call {w w':World} {p:Wp} {x:Wd} (h:Ab w p x) (hb:Below w.heap.size w w'):Ab w' p x:=h.below hb lr0
theorem Xm (w:World):Ce w Bb1 Ce7:=⟨Ar.nil _ _,Ae.nil _ _,Ae.nil _ _,Ae.nil _ _,Ar.nil _ _⟩
theorem Aa4 (w:World):Ab w Bo7 Cw8:=⟨Xm w,Ae.nil _ _,Ae.nil _ _,Ar.nil _ _⟩
end
section
structure Sn where
 item:Int
 kind:Int
 id:Int
deriving DecidableEq
end
section
def plOf (ps:List Pl) (i:Nat):Pl:=ps.getD i ⟨0,0⟩
def upL (ps:List Pl):Nat→Pl→List Pl
 | 0,p=>[p]
 | k+1,p=>if p.kind=2 then p :: upL ps k (par ps p) else [p]
def upI (ps:List Pl) (i:Nat):List Pl:=upL ps 4 (plOf ps i)
structure Tr (ps:List Pl):Prop where
 ids:∀p∈ps,p.kind=2→0≤p.id∧p.id<ps.length
 ends:∀p∈ps,Gu ps 4 p=true
def dep (ps:List Pl) (i:Nat):Nat:=(upI ps i).length-1
def Nw (l:List Pl):Pl:=l.getLast?.getD ⟨0,0⟩
def Bh (ps:List Pl) (i:Nat):Pl:=Nw (upI ps i)
def box (j:Nat):Pl:=⟨2,(j:Int)⟩
def wB (ps:List Pl) (i j:Nat):Bool:=decide (i=j)||(upI ps i).any fun q=>decide (q=box j)
def cnt2 (l:List Pl):Nat:=l.countP fun p=>decide (p.kind=2)
def hgtN (ps:List Pl):Nat→Nat→Nat
 | 0,_=>0
 | n+1,i=>max (hgtN ps n i) (if wB ps n i then dep ps n-dep ps i else 0)
def hgt (ps:List Pl) (i:Nat):Nat:=hgtN ps ps.length i
def hgtR (ps:List Pl):Nat→Nat→Nat
 | 0,_=>0
 | n+1,i=>max (hgtR ps n i) (if plOf ps n=box i then 1+hgt ps n else 0)
def inN (ps:List Pl) (n:Nat) (p:Pl):List Int:=((List.range n).filter fun i=>decide (plOf ps i=p)).map fun (i:Nat)=>(i:Int)
def Jz (ps:List Pl) (i:Nat):Sn:=⟨i,(plOf ps i).kind,(plOf ps i).id⟩
def Bf (ps:List Pl) (n:Nat) (p:Pl):List Sn:=((List.range n).filter fun i=>decide (Bh ps i=p)).map (Jz ps)
theorem Bo {ps:List Pl} {i:Nat} (h:i<ps.length):plOf ps i=ps[i]:=by simp [plOf,h]
theorem Ny {ps:List Pl} {i:Nat} (h:i<ps.length):plOf ps i∈ps:=by rw [Bo h];exact List.getElem_mem h
theorem Ql (ps:List Pl) (k:Nat) {p:Pl} (h:¬p.kind=2):upL ps k p=[p]:=by cases k<;>simp [upL,h]
theorem Am5 (ps:List Pl):∀(k:Nat) (p:Pl) (m j:Nat),dpt ps k p=some m→k≤j→upL ps j p=upL ps k p
 | 0,p,m,j,h,_=>by
   simp only [dpt] at h
   split at h
   ·cases h
   ·rename_i hn;rw [Ql ps j hn,Ql ps 0 hn]
 | k+1,p,m,j,h,hj=>by
   cases j with
   | zero=>omega
   | succ j =>
     simp only [dpt] at h
     split at h
     ·rename_i hp
      obtain ⟨i,hi,rfl⟩:=Option.map_eq_some_iff.1 h
      simp only [upL,if_pos hp]
      rw [Am5 ps k _ i j hi (by omega)]
     ·rename_i hp;rw [Ql ps _ hp,Ql ps _ hp]
theorem Ag1 (ps:List Pl):∀(k:Nat) (p:Pl) (m:Nat),dpt ps k p=some m→(upL ps k p).length=m+1
 | 0,p,m,h=>by
   simp only [dpt] at h
   split at h
   ·cases h
   ·simp [upL,←Option.some.inj h]
 | k+1,p,m,h=>by
   simp only [dpt] at h
   split at h
   ·rename_i hp
    obtain ⟨i,hi,rfl⟩:=Option.map_eq_some_iff.1 h
    simp only [upL,if_pos hp,List.length_cons,Ag1 ps k _ i hi]
   ·rename_i hp
    simp [upL,hp,←Option.some.inj h]
theorem Dy1 (ps:List Pl) (k:Nat) (p:Pl):upL ps k p≠[]:=by
 cases k with
 | zero=>simp [upL]
 | succ k=>simp only [upL];split<;>simp
theorem By0 (ps:List Pl) (i:Nat):upI ps i≠[]:=Dy1 _ _ _
theorem Tr.dpt {ps:List Pl} (h:Tr ps) {i:Nat} (hi:i<ps.length):∃m,dpt ps 4 (plOf ps i)=some m:=by
 have:=h.ends _ (Ny hi)
 rw [Vy] at this
 exact Option.isSome_iff_exists.1 this
theorem Nc {ps:List Pl} {i:Nat} (h:¬(plOf ps i).kind=2):upI ps i=[plOf ps i]:=Ql _ _ h
theorem Tr.box {ps:List Pl} (h:Tr ps) {i:Nat} (hi:i<ps.length) (hk:(plOf ps i).kind=2):∃j,j<ps.length∧plOf ps i=box j∧upI ps i=box j :: upI ps j:=by
 obtain ⟨h0,h1⟩:=h.ids _ (Ny hi) hk
 have hj:(plOf ps i).id.toNat<ps.length:=by omega
 have e:plOf ps i=Proofs.YtaeclpjofclbeaaDoor.box (plOf ps i).id.toNat:=by
  generalize plOf ps i=z at *
  cases z;simp only [Proofs.YtaeclpjofclbeaaDoor.box] at *;subst hk;simp;omega
 refine ⟨(plOf ps i).id.toNat,hj,e,?_⟩
 obtain ⟨m,hm⟩:=h.dpt hi
 obtain ⟨m2,hm2⟩:=h.dpt hj
 have hp:par ps (plOf ps i)=plOf ps (plOf ps i).id.toNat:=rfl
 rw [←e]
 unfold upI
 have h2:=hm
 simp only [Proofs.YtaeclpjofclbeaaDoor.dpt,if_pos hk] at hm
 obtain ⟨q,hq,rfl⟩:=Option.map_eq_some_iff.1 hm
 rw [hp] at hq
 rw [Am5 ps 3 _ q 4 hq (by omega)]
 show upL ps (3+1) _=_
 simp only [upL,if_pos hk,hp]
theorem Nn (ps:List Pl) (i:Nat):0<(upI ps i).length:=List.length_pos_iff.2 (By0 ps i)
theorem Nt {ps:List Pl} {i:Nat} (h:¬(plOf ps i).kind=2):dep ps i=0:=by simp [dep,Nc h]
theorem Gf {ps:List Pl} {i j:Nat} (h:upI ps i=box j :: upI ps j):dep ps i=dep ps j+1:=by
 have:=Nn ps j
 simp only [dep,h,List.length_cons];omega
theorem Bb3 {ps:List Pl} (i:Nat):(upI ps i).length=dep ps i+1:=by
 have:=Nn ps i
 simp only [dep];omega
theorem Tr.dep4 {ps:List Pl} (h:Tr ps) {i:Nat} (hi:i<ps.length):dep ps i≤4:=by
 obtain ⟨m,hm⟩:=h.dpt hi
 have:=Ag1 ps 4 _ m hm
 have:=Ag8 ps 4 _ m hm
 simp only [dep,upI];omega
theorem Tr.depth {ps:List Pl} (h:Tr ps) {i:Nat} (hi:i<ps.length):Ir ps (plOf ps i)=dep ps i:=by
 obtain ⟨m,hm⟩:=h.dpt hi
 have h1:=Ag1 ps 4 _ m hm
 have h2:=Uq ps 4 _ m 50 hm (by omega)
 simp only [Ir,h2,dep,upI,h1,Option.getD_some];omega
theorem Tr.ind {ps:List Pl} (h:Tr ps) {P:Nat→Prop} (leaf:∀i,i<ps.length→¬(plOf ps i).kind=2→P i)
 (step:∀i j,i<ps.length→j<ps.length→plOf ps i=Proofs.YtaeclpjofclbeaaDoor.box j→upI ps i=Proofs.YtaeclpjofclbeaaDoor.box j :: upI ps j→P j→P i):∀i,i<ps.length→P i:=by
 have key:∀n i,i<ps.length→dep ps i=n→P i:=by
  intro n
  induction n with
  | zero =>
    intro i hi hd
    refine leaf i hi fun hk=>?_
    obtain ⟨j,_,_,hu⟩:=h.box hi hk
    rw [Gf hu] at hd;omega
  | succ n ih =>
    intro i hi hd
    by_cases hk:(plOf ps i).kind=2
    ·obtain ⟨j,hj,e,hu⟩:=h.box hi hk
     rw [Gf hu] at hd
     exact step i j hi hj e hu (ih j hj (by omega))
    ·exact leaf i hi hk
 exact fun i hi=>key _ i hi rfl
theorem Em {ps:List Pl} {i:Nat} (h:¬(plOf ps i).kind=2):Bh ps i=plOf ps i:=by simp [Bh,Nw,Nc h]
theorem Et {ps:List Pl} {i j:Nat} (h:upI ps i=box j :: upI ps j):Bh ps i=Bh ps j:=by
 simp only [Bh,Nw,h]
 cases hu:upI ps j with
 | nil=>exact absurd hu (By0 ps j)
 | cons a l=>simp [List.getLast?_cons_cons]
theorem Be8 (l:List Pl) (p:Pl):Nw (l++[p])=p:=by simp [Nw]
theorem Ay8 {i j:Nat}:box i=box j↔i=j:=by simp only [box,Pl.mk.injEq,true_and];omega
theorem Ku {ps:List Pl} {i:Nat} (j:Nat) (h:¬(plOf ps i).kind=2):wB ps i j=decide (i=j):=by
 have:¬plOf ps i=box j:=fun e=>h (by rw [e];rfl)
 simp [wB,Nc h,this]
theorem Eh (ps:List Pl) (i:Nat):wB ps i i=true:=by simp [wB]
theorem Ig {ps:List Pl} {i k:Nat} (j:Nat) (h:upI ps i=box k :: upI ps k):wB ps i j=(decide (i=j)||wB ps k j):=by
 simp only [wB,h,List.any_cons,Ay8]
theorem Ai8 (l:List Pl) (p:Pl):cnt2 (l++[p])=cnt2 l+if p.kind=2 then 1 else 0:=by
 simp only [cnt2,List.countP_append];split<;>simp [*]
theorem Tr.cnt {ps:List Pl} (h:Tr ps):∀i,i<ps.length→cnt2 (upI ps i)=dep ps i:=by
 refine h.ind (fun i hi hk=>?_) (fun i j hi hj e hu ih=>?_)
 ·simp [Nc hk,Nt hk,cnt2,hk]
 ·rw [Gf hu,←ih,hu];simp [cnt2,Proofs.YtaeclpjofclbeaaDoor.box]
theorem Ca6:∀(n:Nat) (l:List Nat),(∀j,j<n→j∈l)→n≤l.length
 | 0,_,_=>Nat.zero_le _
 | n+1,l,h=>by
   have h1:n∈l:=h n (by omega)
   have h2:=Ca6 n (l.erase n) (fun j hj=>(List.mem_erase_of_ne (by omega)).2 (h j (by omega)))
   rw [List.length_erase_of_mem h1] at h2
   have:=List.length_pos_of_mem h1
   omega
theorem Tr.deps {ps:List Pl} (h:Tr ps):∀i,i<ps.length→∀j,j≤dep ps i→∃k,k<ps.length∧dep ps k=j:=by
 refine h.ind (fun i hi hk j hj=>?_) (fun i j hi hj e hu ih k hk=>?_)
 ·exact ⟨i,hi,by rw [Nt hk] at hj ⊢;omega⟩
 ·by_cases he:k=dep ps i
  ·exact ⟨i,hi,he.symm⟩
  ·rw [Gf hu] at hk he
   exact ih k (by omega)
theorem Tr.len {ps:List Pl} (h:Tr ps) {i:Nat} (hi:i<ps.length):(upI ps i).length≤ps.length:=by
 have:=Ca6 (dep ps i+1) ((List.range ps.length).map (dep ps)) (fun j hj=>by
  obtain ⟨k,hk,e⟩:=h.deps i hi j (by omega)
  exact List.mem_map.2 ⟨k,List.mem_range.2 hk,e⟩)
 simp only [List.length_map,List.length_range] at this
 rw [Bb3];exact this
theorem Tr.within {ps:List Pl} (h:Tr ps) (j:Nat):∀i,i<ps.length→wB ps i j=true→Bh ps i=Bh ps j∧dep ps j≤dep ps i∧(dep ps i=dep ps j→i=j):=by
 refine h.ind (fun i hi hk hw=>?_) (fun i k hi hk e hu ih hw=>?_)
 ·rw [Ku j hk] at hw
  have:=of_decide_eq_true hw;subst this
  exact ⟨rfl,Nat.le_refl _,fun _=>rfl⟩
 ·rw [Ig j hu,Bool.or_eq_true] at hw
  rcases hw with hw|hw
  ·have:=of_decide_eq_true hw;subst this
   exact ⟨rfl,Nat.le_refl _,fun _=>rfl⟩
  ·obtain ⟨h1,h2,_⟩:=ih hw
   rw [Et hu,Gf hu]
   exact ⟨h1,by omega,fun he=>by omega⟩
theorem Tr.trans {ps:List Pl} (h:Tr ps) (j k:Nat) (hjk:wB ps j k=true):∀i,i<ps.length→wB ps i j=true→wB ps i k=true:=by
 refine h.ind (fun i hi hk hw=>?_) (fun i m hi hm e hu ih hw=>?_)
 ·rw [Ku j hk] at hw
  have:=of_decide_eq_true hw;subst this;exact hjk
 ·rw [Ig j hu,Bool.or_eq_true] at hw
  rcases hw with hw|hw
  ·have:=of_decide_eq_true hw;subst this;exact hjk
  ·rw [Ig k hu,ih hw,Bool.or_true]
theorem Bc0 (ps:List Pl) (i:Nat):∀n low,low<n→wB ps low i=true→dep ps low-dep ps i≤hgtN ps n i
 | n+1,low,hl,hw=>by
   simp only [hgtN]
   by_cases e:low=n
   ·subst e;rw [if_pos hw];omega
   ·have:=Bc0 ps i n low (by omega) hw;omega
theorem Bc1 (ps:List Pl) (i:Nat):∀n,hgtN ps n i=0∨∃low,low<n∧wB ps low i=true∧hgtN ps n i=dep ps low-dep ps i
 | 0=>.inl rfl
 | n+1=>by
   simp only [hgtN]
   rcases Bc1 ps i n with h|⟨low,h1,h2,h3⟩
   ·rw [h]
    split
    ·rename_i hw
     exact .inr ⟨n,by omega,hw,by omega⟩
    ·exact .inl rfl
   ·split
    ·rename_i hw
     by_cases hle:hgtN ps n i≤dep ps n-dep ps i
     ·exact .inr ⟨n,by omega,hw,by omega⟩
     ·exact .inr ⟨low,by omega,h2,by omega⟩
    ·exact .inr ⟨low,by omega,h2,by omega⟩
theorem Tr.hgt_le {ps:List Pl} (h:Tr ps) {i j:Nat} (hi:i<ps.length) (hw:wB ps i j=true):dep ps i≤dep ps j+hgt ps j:=by
 have:=Bc0 ps j ps.length i hi hw
 have:=(h.within j i hi hw).2.1
 unfold hgt;omega
theorem Tr.hgt_at {ps:List Pl} (h:Tr ps) {j:Nat} (hj:j<ps.length):∃i,i<ps.length∧wB ps i j=true∧dep ps i=dep ps j+hgt ps j:=by
 rcases Bc1 ps j ps.length with h0|⟨low,h1,h2,h3⟩
 ·exact ⟨j,hj,Eh ps j,by unfold hgt;omega⟩
 ·have:=(h.within j low h1 h2).2.1
  exact ⟨low,h1,h2,by unfold hgt;omega⟩
theorem Tr.sum4 {ps:List Pl} (h:Tr ps) {j:Nat} (hj:j<ps.length):dep ps j+hgt ps j≤4:=by
 obtain ⟨i,hi,_,e⟩:=h.hgt_at hj
 have:=h.dep4 hi
 omega
theorem Tr.child {ps:List Pl} (h:Tr ps) (j:Nat):∀i,i<ps.length→wB ps i j=true→i=j∨∃k,k<ps.length∧plOf ps k=Proofs.YtaeclpjofclbeaaDoor.box j∧wB ps i k=true:=by
 refine h.ind (fun i hi hk hw=>?_) (fun i m hi hm e hu ih hw=>?_)
 ·rw [Ku j hk] at hw
  exact .inl (of_decide_eq_true hw)
 ·rw [Ig j hu,Bool.or_eq_true] at hw
  rcases hw with hw|hw
  ·exact .inl (of_decide_eq_true hw)
  ·rcases ih hw with rfl|⟨k,hk,ek,hwk⟩
   ·exact .inr ⟨i,hi,e,Eh ps i⟩
   ·exact .inr ⟨k,hk,ek,by rw [Ig k hu,hwk,Bool.or_true]⟩
theorem Tr.kid {ps:List Pl} (h:Tr ps) {i j:Nat} (hi:i<ps.length) (e:plOf ps i=Proofs.YtaeclpjofclbeaaDoor.box j):upI ps i=Proofs.YtaeclpjofclbeaaDoor.box j :: upI ps j∧j<ps.length:=by
 obtain ⟨k,hk,e2,hu⟩:=h.box hi (by rw [e];rfl)
 rw [e] at e2
 have:=Ay8.1 e2
 subst this
 exact ⟨hu,hk⟩
theorem Bb8 (ps:List Pl) (i:Nat):∀n k,k<n→plOf ps k=box i→1+hgt ps k≤hgtR ps n i
 | n+1,k,hl,hw=>by
   simp only [hgtR]
   by_cases e:k=n
   ·subst e;rw [if_pos hw];omega
   ·have:=Bb8 ps i n k (by omega) hw;omega
theorem Bb9 (ps:List Pl) (i:Nat):∀n,hgtR ps n i=0∨∃k,k<n∧plOf ps k=box i∧hgtR ps n i=1+hgt ps k
 | 0=>.inl rfl
 | n+1=>by
   simp only [hgtR]
   rcases Bb9 ps i n with h|⟨k,h1,h2,h3⟩
   ·rw [h]
    split
    ·rename_i hw
     exact .inr ⟨n,by omega,hw,by omega⟩
    ·exact .inl rfl
   ·split
    ·rename_i hw
     by_cases hle:hgtR ps n i≤1+hgt ps n
     ·exact .inr ⟨n,by omega,hw,by omega⟩
     ·exact .inr ⟨k,by omega,h2,by omega⟩
    ·exact .inr ⟨k,by omega,h2,by omega⟩
theorem Tr.hgtR {ps:List Pl} (h:Tr ps) {j:Nat} (hj:j<ps.length):hgtR ps ps.length j=hgt ps j:=by
 obtain ⟨i,hi,hw,e⟩:=h.hgt_at hj
 apply Nat.le_antisymm
 ·rcases Bb9 ps j ps.length with h0|⟨k,hk,ek,e2⟩
  ·omega
  ·obtain ⟨hu,_⟩:=h.kid hk ek
   obtain ⟨i2,hi2,hw2,e3⟩:=h.hgt_at hk
   have:=h.hgt_le hi2 (h.trans k j (by rw [Ig j hu,Eh,Bool.or_true]) i2 hi2 hw2)
   have:=Gf hu
   omega
 ·rcases h.child j i hi hw with rfl|⟨k,hk,ek,hwk⟩
  ·omega
  ·obtain ⟨hu,_⟩:=h.kid hk ek
   have:=Bb8 ps j ps.length k hk ek
   have:=h.hgt_le hi hwk
   have:=Gf hu
   omega
theorem Aq9 {ps:List Pl} {n:Nat} {p:Pl} (h:plOf ps n=p):inN ps (n+1) p=inN ps n p++[(n:Int)]:=by
 simp [inN,List.range_succ,h]
theorem Bm4 {ps:List Pl} {n:Nat} {p:Pl} (h:¬plOf ps n=p):inN ps (n+1) p=inN ps n p:=by
 simp [inN,List.range_succ,h]
theorem Qv {ps:List Pl} {n:Nat} {p:Pl} (h:Bh ps n=p):Bf ps (n+1) p=Bf ps n p++[Jz ps n]:=by
 simp [Bf,List.range_succ,h]
theorem Ua {ps:List Pl} {n:Nat} {p:Pl} (h:¬Bh ps n=p):Bf ps (n+1) p=Bf ps n p:=by
 simp [Bf,List.range_succ,h]
theorem Bb7 (ps:List Pl) (n:Nat) (p:Pl):(inN ps n p).length≤n:=by
 have:=List.length_filter_le (fun i=>decide (plOf ps i=p)) (List.range n)
 simpa [inN] using this
theorem Hd (ps:List Pl) (n:Nat) (p:Pl):(Bf ps n p).length≤n:=by
 have:=List.length_filter_le (fun i=>decide (Bh ps i=p)) (List.range n)
 simpa [Bf] using this
theorem Ae0 (ps:List Pl) (p:Pl):∀n,n≤ps.length→(inN ps n p).length=(ps.take n).count p
 | 0,_=>by simp [inN]
 | n+1,hn=>by
   have ih:=Ae0 ps p n (by omega)
   have hg:=Bo (ps:=ps) (i:=n) (by omega)
   rw [List.take_succ_eq_append_getElem (by omega),List.count_append,←ih]
   by_cases e:plOf ps n=p
   ·rw [Aq9 e,←hg,e];simp
   ·rw [Bm4 e,←hg,show [plOf ps n].count p=0 from List.count_eq_zero.2 (by simpa using fun q=>e q.symm)];rfl
theorem Bn7 (ps:List Pl) (p:Pl):(inN ps ps.length p).length=ps.count p:=by
 have:=Ae0 ps p ps.length lr0
 simpa using this
end
section
theorem Dk {ps:List Pl} {i k:Nat} {f:Pl} (hk:k<ps.length):plOf (ps.set i f) k=if k=i then f else plOf ps k:=by
 unfold plOf
 rw [List.getD_eq_getElem?_getD,List.getD_eq_getElem?_getD,List.getElem?_set]
 by_cases e:i=k
 ·subst e;simp [hk]
 ·rw [if_neg e,if_neg (fun h=>e h.symm)]
structure Mv (ps qs:List Pl) (i k:Nat) (f:Pl):Prop where
 w:wB qs k i=wB ps k i
 y:wB ps k i=true→Bh qs k=f∧dep qs k+dep ps i=dep ps k
 n:wB ps k i=false→Bh qs k=Bh ps k∧dep qs k=dep ps k
theorem Bh4 {ps:List Pl} {i:Nat} {f:Pl} (hT:Tr ps) (hf:¬f.kind=2) (hT2:Tr (ps.set i f)) (hi:i<ps.length):∀k,k<ps.length→Mv ps (ps.set i f) i k f:=by
 have key:∀k,k<ps.length→k=i→Mv ps (ps.set i f) i k f:=by
  intro k hk hki
  subst hki
  have e:plOf (ps.set k f) k=f:=by rw [Dk hk,if_pos rfl]
  have hl:¬(plOf (ps.set k f) k).kind=2:=by rw [e];exact hf
  refine ⟨by rw [Eh,Eh],fun _=>⟨by rw [Em hl,e],by rw [Nt hl];omega⟩,fun h=>by rw [Eh] at h;cases h⟩
 refine hT.ind (fun k hk hkd=>?_) (fun k j hk hj he hu ih=>?_)
 ·by_cases hki:k=i
  ·exact key k hk hki
  ·have e:plOf (ps.set i f) k=plOf ps k:=by rw [Dk hk,if_neg hki]
   have hl:¬(plOf (ps.set i f) k).kind=2:=by rw [e];exact hkd
   have hw:wB ps k i=false:=by rw [Ku i hkd];simpa using hki
   refine ⟨by rw [Ku i hl,Ku i hkd],fun h=>(by rw [hw] at h;cases h),fun _=>⟨by rw [Em hl,Em hkd,e],by rw [Nt hl,Nt hkd]⟩⟩
 ·by_cases hki:k=i
  ·exact key k hk hki
  ·have e:plOf (ps.set i f) k=box j:=by rw [Dk hk,if_neg hki,he]
   obtain ⟨hu2,_⟩:=hT2.kid (by simpa using hk) e
   have w1:wB ps k i=wB ps j i:=by rw [Ig i hu];simp [hki]
   have w2:wB (ps.set i f) k i=wB (ps.set i f) j i:=by rw [Ig i hu2];simp [hki]
   refine ⟨by rw [w1,w2,ih.w],fun h=>?_,fun h=>?_⟩
   ·rw [w1] at h
    obtain ⟨h1,h2⟩:=ih.y h
    rw [Et hu2,Gf hu2,Gf hu]
    exact ⟨h1,by omega⟩
   ·rw [w1] at h
    obtain ⟨h1,h2⟩:=ih.n h
    rw [Et hu2,Gf hu2,Gf hu,Et hu]
    exact ⟨h1,by omega⟩
theorem Fh8 {ps:List Pl} {i:Nat} {f:Pl} (hT:Tr ps) (hf:¬f.kind=2) (hT2:Tr (ps.set i f)) (hi:i<ps.length):hgt (ps.set i f) i=hgt ps i:=by
 have hm:=Bh4 hT hf hT2 hi
 have hlen:(ps.set i f).length=ps.length:=by simp
 have d0:=(hm i hi).y (Eh ps i)
 obtain ⟨a,ha,hwa,ea⟩:=hT.hgt_at hi
 obtain ⟨b,hb,hwb,eb⟩:=hT2.hgt_at (j:=i) (by omega)
 have m1:=hm a ha
 have m2:=hm b (by omega)
 have l1:=hT2.hgt_le (i:=a) (j:=i) (by omega) (by rw [m1.w];exact hwa)
 have l2:=hT.hgt_le (i:=b) (j:=i) (by omega) (by rw [←m2.w];exact hwb)
 have y1:=(m1.y hwa).2
 have y2:=(m2.y (by rw [←m2.w];exact hwb)).2
 omega
end
section
open Go.RowKit Go.Deep Go.Joins
section
variable {H:Type} {enc:TypeId × Value→H} {P:Program}
theorem Gj {α:Type} {k:Nat} {en:α→List Value} {W:World} {t e:TypeId} {fuel:Nat} {v:Value} {x:DataW H × List MemPlace} (hk:0<k) (z:α) (ht:P.underlying t=some (.slice e)) (hc:P.cellsOf e=k) (hl0:∀x,(en x).length=k)
 (hs:∀(n:Nat) (cs:List Value) (y:DataW H × List MemPlace),DataW.trod enc P W 0 (fun _=>true) true n e cs=some y→∃s:α,cs=en s)
 (hf:DataW.trod enc P W 0 (fun _=>true) true fuel t [v]=some x) :
 ∃(a:Option Addr) (cap:Nat) (xs:List α),v=.slice a xs.length cap∧Ar k en W a xs:=by
 rcases open_slice ht hf with ⟨hcs,hx⟩|⟨a,len',cap',m,n,D,Pl,hcs,_,hl,hm,hmm,hx,hi⟩
 ·simp at hcs
  subst hcs
  exact ⟨none,0,[],rfl,Ar.nil _ _⟩
 ·simp at hcs
  subst hcs
  simp only [if_true] at hmm
  subst hmm
  have key:∀i,i<m→∃s:α,∀j u,j<k→(en s)[j]?=some u→W.cell? ((a.add (i*k)).add j)=some u:=by
   intro i him
   obtain ⟨cs',h1,h2⟩:=hi i him
   rw [hc] at h1
   obtain ⟨s,rfl⟩:=hs _ _ _ h2
   obtain ⟨_,hcl,hat⟩:=World.cells?_some h1
   exact ⟨s,fun j u hj hu=>(hat j hj).trans hu⟩
  obtain ⟨f,hfn⟩:∃f:Nat→α,∀i,i<m→∀j u,j<k→(en (f i))[j]?=some u→W.cell? ((a.add (i*k)).add j)=some u :=
   ⟨fun i=>if h:i<m then (key i h).choose else z,fun i hi=>by simp only [dif_pos hi];exact (key i hi).choose_spec⟩
  have hlen:((List.range len').map f).length=len':=by simp
  refine ⟨some a,m,(List.range len').map f,by rw [hlen],⟨by omega,?_⟩⟩
  by_cases h0:len'=0
  ·left;subst h0;simp
  ·right
   obtain ⟨b,off,spot⟩:=a
   have h1:=hfn 0 (by omega) 0 _ hk (List.getElem?_eq_getElem (by rw [hl0];exact hk))
   have hspot:spot=none:=by simpa [Addr.add] using World.cell?_spot h1
   subst hspot
   refine ⟨b,off,rfl,?_,fun i hi j hj=>?_⟩
   ·apply Decidable.byContradiction;intro hb
    have e2:W.heap[b]?=none:=by simp;omega
    simp [World.cell?,Addr.add,e2] at h1
   ·have hi2:i<len':=by simpa using hi
    have ea:∀j,(((⟨b,off,none⟩:Addr).add (i*k)).add j)=⟨b,off+i*k+j,none⟩:=fun j=>by
     by_cases hi0:i*k=0<;>by_cases hj0:j=0<;>simp [Addr.add,hi0,hj0]
    have q0:=hfn i (by omega) j _ hj (List.getElem?_eq_getElem (by rw [hl0];exact hj))
    rw [ea] at q0
    simp only [List.getElem_map,List.getElem_range]
    rw [q0,List.getElem?_eq_getElem (by rw [hl0];exact hj)]
theorem Bb4 {w:World} {base:Nat} {spare:Nat→Bool} {held:Bool} {fuel:Nat} {u e:TypeId} {cs:List Value} {x:DataW H × List MemPlace} {g0 g1:Field}
 (hu:P.underlying u=some (.struct #[g0,g1])) (he:P.underlying e=some (.int .i64)) (hc:P.cellsOf e=1) (k0:g0.offset=0∧g0.type=e) (k1:g1.offset=1∧g1.type=e) (hcu:P.cellsOf u=2)
 (h:DataW.trod enc P w base spare held fuel u cs=some x):∃s:Pl,cs=plC s:=by
 obtain ⟨xs,n,_,_,hl,hxl,hf⟩:=DataW.trod_struct hu h
 rw [hcu] at hl
 match cs,hl with
 | [a,b],_ =>
   have e0:=hf 0 g0 rfl
   have e1:=hf 1 g1 rfl
   match xs,hxl with
   | [y0,y1],_ =>
     rw [k0.1,k0.2,hc] at e0
     rw [k1.1,k1.2,hc] at e1
     simp at e0 e1
     obtain ⟨i,hi,_,_⟩:=DataW.trod_int he e0
     obtain ⟨j,hj,_,_⟩:=DataW.trod_int he e1
     simp only [List.cons.injEq,and_true] at hi hj
     subst hi hj
     exact ⟨⟨i,j⟩,rfl⟩
theorem Cs1 {w:World} {base:Nat} {spare:Nat→Bool} {held:Bool} {fuel:Nat} {t e:TypeId} {cs:List Value} {x:DataW H × List MemPlace}
 (ht:P.underlying t=some (.array 4 e)) (he:P.underlying e=some (.int .i64)) (hc:P.cellsOf e=1) (hct:P.cellsOf t=4)
 (h:DataW.trod enc P w base spare held fuel t cs=some x):∃s:Ex,cs=exC s:=by
 have hl:cs.length=4:=by
  obtain ⟨xs,n,_,_,hl,_⟩:=DataW.trod_array ht h
  rw [hct] at hl;exact hl
 match cs,hl with
 | [a,b,c,d],_ =>
   obtain ⟨y0,y1,y2,y3,n,_,h0,h1,h2,h3⟩:=trod_array4 ht hc h
   obtain ⟨i0,e0,_,_⟩:=DataW.trod_int he h0
   obtain ⟨i1,e1,_,_⟩:=DataW.trod_int he h1
   obtain ⟨i2,e2,_,_⟩:=DataW.trod_int he h2
   obtain ⟨i3,e3,_,_⟩:=DataW.trod_int he h3
   simp only [List.cons.injEq,and_true] at e0 e1 e2 e3
   subst e0 e1 e2 e3
   exact ⟨⟨i0,i1,i2,i3⟩,rfl⟩
end
end
section
theorem Br5 (a b:Option Addr) (ca cb:Nat) (xs ys:List Int) (w:World) (hl:xs.length=ys.length) (h1:Ae w a xs) (h2:Ae w b ys) :
 Calls prog 26 #[.slice a xs.length ca,.slice b ys.length cb] w fun e w'=>e=.returned (.bool (decide (xs=ys)))∧Below w.heap.size w w':=by
 have hm:=h1.len
 have H1:=hid h1
 have H2:=hid h2
 have HL:=hid hl
 rw [←hl]
 clear h1 h2 hl
 go_enter func26,ntmps26
 go_wp2_with fail
 go_loopw [5] (fun i wr=>∃k:Nat,k≤xs.length∧i=.int .i64 k∧xs.take k=ys.take k∧Below w.heap.size w wr) (fun i _=>xs.length-(intOf i).toNat)
 case atStart=>exact ⟨0,Nat.zero_le _,rfl,rfl,Below.refl _ _⟩
 case round =>
  obtain ⟨k,hk,rfl,htk,hbel⟩:=hrel
  have HT:=hid htk
  clear htk
  by_cases hlt:k<xs.length
  ·have hy:k<ys.length:=by have:=HL.out;omega
   obtain ⟨xb,xo,rfl,hxb,hxc⟩:=H1.at_ hlt
   obtain ⟨yb,yo,rfl,hyb,hyc⟩:=H2.at_ hy
   have h1:=(hbel.cell (p:=⟨xb,xo+k,none⟩) hxb).trans (hxc k hlt)
   have h2:=(hbel.cell (p:=⟨yb,yo+k,none⟩) hyb).trans (hyc k hy)
   clear hxc hyc H1 H2
   have HX:=hid (Ga hlt hy HT.out)
   have HN:Hid (¬xs[k]=ys[k]→¬xs=ys):=hid (fun h e=>by subst e;exact h rfl)
   generalize hx:xs[k]=x at *
   generalize hyy:ys[k]=y at *
   have G1:=hid hx
   have G2:=hid hyy
   clear hx hyy
   by_cases he:x=y
   ·subst he
    have HX2:=hid (HX.out rfl)
    go_wp2_with fail
    go_quiet (fail)
    go_wp2_with fail
    go_roundw
    case rel=>exact ⟨k+1,by omega,by go_num,HX2.out,Ib hbel _⟩
    case measure=>simp [intOf];omega
   ·have hne:(x != y)=true:=by simpa using he
    have hne2:(x==y)=false:=by simpa using he
    have HD:=hid (show decide (xs=ys)=false by simpa using HN.out he)
    clear he
    go_wp2_with fail
    go_quiet (fail)
    go_wp2_with fail
    go_ret
    exact ⟨Ag (by rw [HD.out]),Ib hbel _⟩
  ·have hke:k=xs.length:=by omega
   subst hke
   have HD:=hid (show decide (xs=ys)=true by
    have:=HT.out
    rw [List.take_of_length_le lr0,HL.out,List.take_of_length_le lr0] at this
    simpa using this)
   clear H1 H2
   go_wp2_with fail
   go_ret
   exact ⟨Ag (by rw [HD.out]),hbel⟩
theorem Cn (a b:Option Addr) (ca cb:Nat) (xs ys:List Int) (w:World) (h1:Ae w a xs) (h2:Ae w b ys) :
 Calls prog 26 #[.slice a xs.length ca,.slice b ys.length cb] w fun e w'=>e=.returned (.bool (decide (xs=ys)))∧Below w.heap.size w w':=by
 by_cases h:xs.length=ys.length
 ·exact Br5 a b ca cb xs ys w h h1 h2
 ·have HD:=hid (show decide (xs=ys)=false by rw [decide_eq_false_iff_not];intro e;exact h (by rw [e]))
  rw [HD.out]
  have hl:=h1.len
  have hl2:=h2.len
  clear h1 h2
  have hb:((xs.length:Int)==(ys.length:Int))=false:=by rw [beq_eq_false_iff_ne];omega
  have hb2:((xs.length:Int) != (ys.length:Int))=true:=by rw [bne,hb];rfl
  go_enter func26,ntmps26
  go_wp2_with fail
  go_ret
  exact ⟨rfl,Below.refl _ _⟩
end
section
theorem Bi9 (a b:Option Addr) (ca cb:Nat) (xs ys:List Int) (w:World) (hl:xs.length=ys.length) (h1:Ae w a xs) (h2:Ae w b ys) :
 Calls prog 35 #[.slice a xs.length ca,.slice b ys.length cb] w fun e w'=>e=.returned (.bool (decide (xs=ys)))∧Below w.heap.size w w':=by
 have hm:=h1.len
 have H1:=hid h1
 have H2:=hid h2
 have HL:=hid hl
 rw [←hl]
 clear h1 h2 hl
 go_enter func35,ntmps35
 go_wp2_with fail
 go_loopw [5,13] (fun _ i wr=>∃k:Nat,k≤xs.length∧i=.int .i64 k∧xs.take k=ys.take k∧Below w.heap.size w wr) (fun _ i _=>xs.length-(intOf i).toNat)
 case atStart=>exact ⟨0,Nat.zero_le _,rfl,rfl,Below.refl _ _⟩
 case round =>
  obtain ⟨k,hk,rfl,htk,hbel⟩:=hrel
  have HT:=hid htk
  clear htk
  by_cases hlt:k<xs.length
  ·have hy:k<ys.length:=by have:=HL.out;omega
   obtain ⟨xb,xo,rfl,hxb,hxc⟩:=H1.at_ hlt
   obtain ⟨yb,yo,rfl,hyb,hyc⟩:=H2.at_ hy
   have h1:=(hbel.cell (p:=⟨xb,xo+k,none⟩) hxb).trans (hxc k hlt)
   have h2:=(hbel.cell (p:=⟨yb,yo+k,none⟩) hyb).trans (hyc k hy)
   clear hxc hyc H1 H2
   have HX:=hid (Ga hlt hy HT.out)
   have HN:Hid (¬xs[k]=ys[k]→¬xs=ys):=hid (fun h e=>by subst e;exact h rfl)
   generalize hx:xs[k]=x at *
   generalize hyy:ys[k]=y at *
   have G1:=hid hx
   have G2:=hid hyy
   clear hx hyy
   by_cases he:x=y
   ·subst he
    have HX2:=hid (HX.out rfl)
    go_wp2_with fail
    go_quiet (fail)
    go_wp2_with fail
    go_roundw
    case rel=>exact ⟨k+1,by omega,by go_num,HX2.out,Ib hbel _⟩
    case measure=>simp [intOf];omega
   ·have hne:(x != y)=true:=by simpa using he
    have hne2:(x==y)=false:=by simpa using he
    have HD:=hid (show decide (xs=ys)=false by simpa using HN.out he)
    clear he
    go_wp2_with fail
    go_quiet (fail)
    go_wp2_with fail
    go_ret
    exact ⟨Ag (by rw [HD.out]),Ib hbel _⟩
  ·have hke:k=xs.length:=by omega
   subst hke
   have HD:=hid (show decide (xs=ys)=true by
    have:=HT.out
    rw [List.take_of_length_le lr0,HL.out,List.take_of_length_le lr0] at this
    simpa using this)
   clear H1 H2
   go_wp2_with fail
   go_ret
   exact ⟨Ag (by rw [HD.out]),hbel⟩
theorem Dm (a b:Option Addr) (ca cb:Nat) (xs ys:List Int) (w:World) (h1:Ae w a xs) (h2:Ae w b ys) :
 Calls prog 35 #[.slice a xs.length ca,.slice b ys.length cb] w fun e w'=>e=.returned (.bool (decide (xs=ys)))∧Below w.heap.size w w':=by
 by_cases h:xs.length=ys.length
 ·exact Bi9 a b ca cb xs ys w h h1 h2
 ·have HD:=hid (show decide (xs=ys)=false by rw [decide_eq_false_iff_not];intro e;exact h (by rw [e]))
  rw [HD.out]
  have hl:=h1.len
  have hl2:=h2.len
  clear h1 h2
  have hb:((xs.length:Int)==(ys.length:Int))=false:=by rw [beq_eq_false_iff_ne];omega
  have hb2:((xs.length:Int) != (ys.length:Int))=true:=by rw [bne,hb];rfl
  go_enter func35,ntmps35
  go_wp2_with fail
  go_ret
  exact ⟨rfl,Below.refl _ _⟩
end
section
def Bd (w:World) (a:Option Addr) (xs:List Sn):Prop :=
 xs.length≤maxLen∧(xs=[]∨∃b off,a=some ⟨b,off,none⟩∧b<w.heap.size∧∀i (hi:i<xs.length),w.cell? ⟨b,off+i*3,none⟩=some (.int .i64 xs[i].item)∧w.cell? ⟨b,off+i*3+1,none⟩=some (.int .i64 xs[i].kind)∧w.cell? ⟨b,off+i*3+2,none⟩=some (.int .i64 xs[i].id))
theorem Bd.below {w w':World} {a:Option Addr} {xs:List Sn} (h:Bd w a xs) {B:Nat} (hb:Below B w w') (hB:w.heap.size≤B):Bd w' a xs:=by
 obtain ⟨hl,h⟩:=h
 refine ⟨hl,?_⟩
 rcases h with h|⟨b,off,rfl,hb2,hc⟩
 ·exact .inl h
 ·refine .inr ⟨b,off,rfl,by have:=hb.size;omega,fun i hi=>?_⟩
  obtain ⟨h1,h2,h3⟩:=hc i hi
  exact ⟨(hb.cell (p:=⟨b,off+i*3,none⟩) (by show b<B;omega)).trans h1,(hb.cell (p:=⟨b,off+i*3+1,none⟩) (by show b<B;omega)).trans h2,(hb.cell (p:=⟨b,off+i*3+2,none⟩) (by show b<B;omega)).trans h3⟩
theorem Bd.call {w w':World} {a:Option Addr} {xs:List Sn} (h:Bd w a xs) (hb:Below w.heap.size w w'):Bd w' a xs:=h.below hb lr0
theorem Bd.alloc {w:World} {a:Option Addr} {xs:List Sn} (h:Bd w a xs) (o:Obj):Bd (w.alloc o) a xs:=h.below (b_a _) lr0
theorem Bd.nil (w:World) (a:Option Addr):Bd w a []:=⟨by simp,.inl rfl⟩
theorem Bd.len {w:World} {a:Option Addr} {xs:List Sn} (h:Bd w a xs):xs.length≤9223372036854775807:=by
 have:=h.1;unfold maxLen at this;omega
theorem Bd.at_ {w:World} {a:Option Addr} {xs:List Sn} (h:Bd w a xs) {k:Nat} (hk:k<xs.length):∃b off,a=some ⟨b,off,none⟩∧b<w.heap.size∧∀i (hi:i<xs.length),w.cell? ⟨b,off+i*3,none⟩=some (.int .i64 xs[i].item)∧w.cell? ⟨b,off+i*3+1,none⟩=some (.int .i64 xs[i].kind)∧w.cell? ⟨b,off+i*3+2,none⟩=some (.int .i64 xs[i].id):=by
 rcases h.2 with h|h
 ·subst h;simp at hk
 ·exact h
theorem Bz2 (a1 a2 a3 b1 b2 b3:Int) (w:World):(binOp .neq 72 (.agg #[.int .i64 a1,.int .i64 a2,.int .i64 a3]) (.agg #[.int .i64 b1,.int .i64 b2,.int .i64 b3])).run prog w=.ok (.bool (!decide ((⟨a1,a2,a3⟩:Sn)=⟨b1,b2,b3⟩))) w:=by
 by_cases e1:a1=b1
 ·by_cases e2:a2=b2
  ·by_cases e3:a3=b3
   ·subst e1 e2 e3;go_simp
   ·go_simp
  ·go_simp
 ·go_simp
theorem Ak0 (a b:Option Addr) (ca cb:Nat) (xs ys:List Sn) (w:World) (hl:xs.length=ys.length) (h1:Bd w a xs) (h2:Bd w b ys) :
 Calls prog 27 #[.slice a xs.length ca,.slice b ys.length cb] w fun e w'=>e=.returned (.bool (decide (xs=ys)))∧Below w.heap.size w w':=by
 have hm:=h1.len
 have H1:=hid h1
 have H2:=hid h2
 have HL:=hid hl
 rw [←hl]
 clear h1 h2 hl
 go_enter func27,ntmps27
 go_wp2_with fail
 go_loopw [5] (fun i wr=>∃k:Nat,k≤xs.length∧i=.int .i64 k∧xs.take k=ys.take k∧Below w.heap.size w wr) (fun i _=>xs.length-(intOf i).toNat)
 case atStart=>exact ⟨0,Nat.zero_le _,rfl,rfl,Below.refl _ _⟩
 case round =>
  obtain ⟨k,hk,rfl,htk,hbel⟩:=hrel
  have HT:=hid htk
  clear htk
  by_cases hlt:k<xs.length
  ·have hy:k<ys.length:=by have:=HL.out;omega
   obtain ⟨xb,xo,rfl,hxb,hxc⟩:=H1.at_ hlt
   obtain ⟨yb,yo,rfl,hyb,hyc⟩:=H2.at_ hy
   obtain ⟨x1,x2,x3⟩:=hxc k hlt
   obtain ⟨y1,y2,y3⟩:=hyc k hy
   have h1:=(hbel.cell (p:=⟨xb,xo+k*3,none⟩) hxb).trans x1
   have h2:=(hbel.cell (p:=⟨xb,xo+k*3+1,none⟩) hxb).trans x2
   have h3:=(hbel.cell (p:=⟨xb,xo+k*3+2,none⟩) hxb).trans x3
   have h4:=(hbel.cell (p:=⟨yb,yo+k*3,none⟩) hyb).trans y1
   have h5:=(hbel.cell (p:=⟨yb,yo+k*3+1,none⟩) hyb).trans y2
   have h6:=(hbel.cell (p:=⟨yb,yo+k*3+2,none⟩) hyb).trans y3
   clear hxc hyc H1 H2 x1 x2 x3 y1 y2 y3
   have HX:=hid (Ga hlt hy HT.out)
   have HN:Hid (¬xs[k]=ys[k]→¬xs=ys):=hid (fun h e=>by subst e;exact h rfl)
   have hrun:=Bz2 xs[k].item xs[k].kind xs[k].id ys[k].item ys[k].kind ys[k].id
   generalize hx:xs[k]=x at *
   generalize hyy:ys[k]=y at *
   have G1:=hid hx
   have G2:=hid hyy
   clear hx hyy
   obtain ⟨xi,xk,xd⟩:=x
   obtain ⟨yi,yk,yd⟩:=y
   by_cases he:(⟨xi,xk,xd⟩:Sn)=⟨yi,yk,yd⟩
   ·have HX2:=hid (HX.out he)
    simp only [he,decide_true,Bool.not_true] at hrun
    clear he
    go_wp2_with fail
    go_quiet (fail)
    go_wp2_with fail
    go_roundw
    case rel=>exact ⟨k+1,by omega,by go_num,HX2.out,Ib hbel _⟩
    case measure=>simp [intOf];omega
   ·have HD:=hid (show decide (xs=ys)=false by simpa using HN.out he)
    simp only [he,decide_false,Bool.not_false] at hrun
    clear he
    go_wp2_with fail
    go_quiet (fail)
    go_wp2_with fail
    go_ret
    exact ⟨Ag (by rw [HD.out]),Ib hbel _⟩
  ·have hke:k=xs.length:=by omega
   subst hke
   have HD:=hid (show decide (xs=ys)=true by
    have:=HT.out
    rw [List.take_of_length_le lr0,HL.out,List.take_of_length_le lr0] at this
    simpa using this)
   clear H1 H2
   go_wp2_with fail
   go_ret
   exact ⟨Ag (by rw [HD.out]),hbel⟩
theorem Vq (a b:Option Addr) (ca cb:Nat) (xs ys:List Sn) (w:World) (h1:Bd w a xs) (h2:Bd w b ys) :
 Calls prog 27 #[.slice a xs.length ca,.slice b ys.length cb] w fun e w'=>e=.returned (.bool (decide (xs=ys)))∧Below w.heap.size w w':=by
 by_cases h:xs.length=ys.length
 ·exact Ak0 a b ca cb xs ys w h h1 h2
 ·have HD:=hid (show decide (xs=ys)=false by rw [decide_eq_false_iff_not];intro e;exact h (by rw [e]))
  rw [HD.out]
  have hl:=h1.len
  have hl2:=h2.len
  clear h1 h2
  have hb:((xs.length:Int)==(ys.length:Int))=false:=by rw [beq_eq_false_iff_ne];omega
  have hb2:((xs.length:Int) != (ys.length:Int))=true:=by rw [bne,hb];rfl
  go_enter func27,ntmps27
  go_wp2_with fail
  go_ret
  exact ⟨rfl,Below.refl _ _⟩
theorem Dn5 (a b:Option Addr) (ca cb:Nat) (xs ys:List Sn) (w:World) (hl:xs.length=ys.length) (h1:Bd w a xs) (h2:Bd w b ys) :
 Calls prog 36 #[.slice a xs.length ca,.slice b ys.length cb] w fun e w'=>e=.returned (.bool (decide (xs=ys)))∧Below w.heap.size w w':=by
 have hm:=h1.len
 have H1:=hid h1
 have H2:=hid h2
 have HL:=hid hl
 rw [←hl]
 clear h1 h2 hl
 go_enter func36,ntmps36
 go_wp2_with fail
 go_loopw [5,13] (fun _ i wr=>∃k:Nat,k≤xs.length∧i=.int .i64 k∧xs.take k=ys.take k∧Below w.heap.size w wr) (fun _ i _=>xs.length-(intOf i).toNat)
 case atStart=>exact ⟨0,Nat.zero_le _,rfl,rfl,Below.refl _ _⟩
 case round =>
  obtain ⟨k,hk,rfl,htk,hbel⟩:=hrel
  have HT:=hid htk
  clear htk
  by_cases hlt:k<xs.length
  ·have hy:k<ys.length:=by have:=HL.out;omega
   obtain ⟨xb,xo,rfl,hxb,hxc⟩:=H1.at_ hlt
   obtain ⟨yb,yo,rfl,hyb,hyc⟩:=H2.at_ hy
   obtain ⟨x1,x2,x3⟩:=hxc k hlt
   obtain ⟨y1,y2,y3⟩:=hyc k hy
   have h1:=(hbel.cell (p:=⟨xb,xo+k*3,none⟩) hxb).trans x1
   have h2:=(hbel.cell (p:=⟨xb,xo+k*3+1,none⟩) hxb).trans x2
   have h3:=(hbel.cell (p:=⟨xb,xo+k*3+2,none⟩) hxb).trans x3
   have h4:=(hbel.cell (p:=⟨yb,yo+k*3,none⟩) hyb).trans y1
   have h5:=(hbel.cell (p:=⟨yb,yo+k*3+1,none⟩) hyb).trans y2
   have h6:=(hbel.cell (p:=⟨yb,yo+k*3+2,none⟩) hyb).trans y3
   clear hxc hyc H1 H2 x1 x2 x3 y1 y2 y3
   have HX:=hid (Ga hlt hy HT.out)
   have HN:Hid (¬xs[k]=ys[k]→¬xs=ys):=hid (fun h e=>by subst e;exact h rfl)
   have hrun:=Bz2 xs[k].item xs[k].kind xs[k].id ys[k].item ys[k].kind ys[k].id
   generalize hx:xs[k]=x at *
   generalize hyy:ys[k]=y at *
   have G1:=hid hx
   have G2:=hid hyy
   clear hx hyy
   obtain ⟨xi,xk,xd⟩:=x
   obtain ⟨yi,yk,yd⟩:=y
   by_cases he:(⟨xi,xk,xd⟩:Sn)=⟨yi,yk,yd⟩
   ·have HX2:=hid (HX.out he)
    simp only [he,decide_true,Bool.not_true] at hrun
    clear he
    go_wp2_with fail
    go_quiet (fail)
    go_wp2_with fail
    go_roundw
    case rel=>exact ⟨k+1,by omega,by go_num,HX2.out,Ib hbel _⟩
    case measure=>simp [intOf];omega
   ·have HD:=hid (show decide (xs=ys)=false by simpa using HN.out he)
    simp only [he,decide_false,Bool.not_false] at hrun
    clear he
    go_wp2_with fail
    go_quiet (fail)
    go_wp2_with fail
    go_ret
    exact ⟨Ag (by rw [HD.out]),Ib hbel _⟩
  ·have hke:k=xs.length:=by omega
   subst hke
   have HD:=hid (show decide (xs=ys)=true by
    have:=HT.out
    rw [List.take_of_length_le lr0,HL.out,List.take_of_length_le lr0] at this
    simpa using this)
   clear H1 H2
   go_wp2_with fail
   go_ret
   exact ⟨Ag (by rw [HD.out]),hbel⟩
theorem Eq7 (a b:Option Addr) (ca cb:Nat) (xs ys:List Sn) (w:World) (h1:Bd w a xs) (h2:Bd w b ys) :
 Calls prog 36 #[.slice a xs.length ca,.slice b ys.length cb] w fun e w'=>e=.returned (.bool (decide (xs=ys)))∧Below w.heap.size w w':=by
 by_cases h:xs.length=ys.length
 ·exact Dn5 a b ca cb xs ys w h h1 h2
 ·have HD:=hid (show decide (xs=ys)=false by rw [decide_eq_false_iff_not];intro e;exact h (by rw [e]))
  rw [HD.out]
  have hl:=h1.len
  have hl2:=h2.len
  clear h1 h2
  have hb:((xs.length:Int)==(ys.length:Int))=false:=by rw [beq_eq_false_iff_ne];omega
  have hb2:((xs.length:Int) != (ys.length:Int))=true:=by rw [bne,hb];rfl
  go_enter func36,ntmps36
  go_wp2_with fail
  go_ret
  exact ⟨rfl,Below.refl _ _⟩
end
end Go.Proofs.YtaeclpjofclbeaaDoor
