/- Changes as they lie in memory; the document's own Full, May, Do. -/
import Derived.Test.YtnhkojpbbdaedaaGreatGHoldR
import Derived.Test.YtnhkojpbbdaedaaGreatAtomArg
import Derived.Test.YtnhkojpbbdaedaaGreatPlanMath
import Derived.Deep.DeepCutAuto
namespace Go.Proofs.YtnhkojpbbdaedaaGreat
open Go.ChangeShapes Go.WideShapes Go.ChangeAt Go.RowKit Go.Proofs.Tryz
set_option linter.unusedVariables false
set_option maxRecDepth 100000
open Go.RowKit Go.Deep
def wrC (c:Wr):List Value:=[.int .i64 c.kind,.int .i64 c.id,.int .i64 c.num,.int .i64 c.pl.kind,.int .i64 c.pl.id]
theorem wrC_len (c:Wr):(wrC c).length=5:=rfl
theorem wrC_one (c:Wr):∀u∈wrC c,u.oneCell'=true:=by intro u hu;simp [wrC] at hu;rcases hu with rfl|rfl|rfl|rfl|rfl<;>rfl
theorem wr_info:(prog.info? 50).map (fun i=>(i.zero,i.size,i.bytes))=some (some (.agg #[.int .i64 0,.int .i64 0,.int .i64 0,.int .i64 0,.int .i64 0]),5,40):=by kernel_rfl
abbrev WrsAt (w:World) (a:Option Addr) (l:List Wr):Prop:=Ar 5 wrC w a l
theorem WrsAt.cells {w:World} {a:Option Addr} {l:List Wr} (h:WrsAt w a l) {k:Nat} (hk:k<l.length):∃b off,a=some ⟨b,off,none⟩∧b<w.heap.size ∧
 w.cell? ⟨b,off+k*5,none⟩=some (.int .i64 l[k].kind)∧w.cell? ⟨b,off+k*5+1,none⟩=some (.int .i64 l[k].id)∧w.cell? ⟨b,off+k*5+2,none⟩=some (.int .i64 l[k].num)∧w.cell? ⟨b,off+k*5+3,none⟩=some (.int .i64 l[k].pl.kind)∧w.cell? ⟨b,off+k*5+4,none⟩=some (.int .i64 l[k].pl.id):=by
 obtain ⟨b,off,rfl,hb,hc⟩:=h.at_ hk
 exact ⟨b,off,rfl,hb,hc k hk 0 (by omega),hc k hk 1 (by omega),hc k hk 2 (by omega),hc k hk 3 (by omega),hc k hk 4 (by omega)⟩
theorem trod_wr {H:Type} {enc:TypeId × Value→H} {W:World} {fuel:Nat} {cs:List Value} {x:DataW H × List MemPlace}
 (h:DataW.trod enc prog W 0 (fun _=>true) true fuel 50 cs=some x):∃c:Wr,cs=wrC c:=by
 obtain ⟨xs,n,_,_,hl,hxl,hf⟩:=DataW.trod_struct underlying50 h
 rw [show prog.cellsOf 50=5 by kernel_rfl] at hl
 match cs,hl with
 | [c0,c1,c2,c3,c4],_ =>
   match xs,hxl with
   | [y0,y1,y2,y3],_ =>
     have z1:prog.cellsOf 48=2:=by kernel_rfl
     have z4:prog.cellsOf 3=1:=by kernel_rfl
     have f0:=hf 0 _ rfl
     have f1:=hf 1 _ rfl
     have f2:=hf 2 _ rfl
     have f3:=hf 3 _ rfl
     simp [z1,z4] at f0 f1 f2 f3
     obtain ⟨i0,e0,_,_⟩:=DataW.trod_int underlying3 f0
     obtain ⟨i1,e1,_,_⟩:=DataW.trod_int underlying3 f1
     obtain ⟨i2,e2,_,_⟩:=DataW.trod_int underlying3 f2
     obtain ⟨xs3,n3,_,_,hl3,hxl3,hf3⟩:=DataW.trod_struct underlying48 f3
     match xs3,hxl3 with
     | [z0,z2],_ =>
       have g0:=hf3 0 _ rfl
       have g1:=hf3 1 _ rfl
       simp [z4] at g0 g1
       obtain ⟨i3,e3,_,_⟩:=DataW.trod_int underlying3 g0
       obtain ⟨i4,e4,_,_⟩:=DataW.trod_int underlying3 g1
       simp only [List.cons.injEq,and_true] at e0 e1 e2 e3 e4
       subst e0 e1 e2 e3 e4
       exact ⟨⟨i0,i1,i2,⟨i3,i4⟩⟩,rfl⟩
theorem read_wrs {H:Type} {enc:TypeId × Value→H} {W:World} {base:Nat} {v:Value} {d:DataW H} {ps:List MemPlace}
 (hv:Value.okWide prog W .any base 41 v) (h:DataW.Trod enc prog W 0 (fun _=>true) true 41 v d ps) :
 ∃(a:Option Addr) (cap:Nat) (l:List Wr),v=.slice a l.length cap∧WrsAt W a l∧l.length≤cap∧cap≤maxLen:=by
 obtain ⟨a0,len,cap,rfl⟩:=okWide_slice underlying41 hv
 obtain ⟨fuel,hf⟩:=h
 obtain ⟨a,cap',ls,e,h1⟩:=Gj (k:=5) (en:=wrC) (by decide) ⟨0,0,0,⟨0,0⟩⟩ underlying41 (by kernel_rfl) wrC_len (fun n cs y hy=>trod_wr hy) (show DataW.trod enc prog W 0 (fun _=>true) true fuel 41 [.slice a0 len cap]=some _ from hf)
 have hcap:len≤cap∧cap≤maxLen:=by
  rcases open_slice underlying41 (show DataW.trod enc prog W 0 (fun _=>true) true fuel 41 [.slice a0 len cap]=some _ from hf) with ⟨hcs,_⟩|⟨a,len',cap',m,n,D,Pl,hcs,_,hl,hm,_⟩
  ·simp at hcs;obtain ⟨rfl,rfl,rfl⟩:=hcs;simp
  ·simp at hcs;obtain ⟨rfl,rfl,rfl⟩:=hcs;exact ⟨hl,hm⟩
 obtain ⟨rfl,rfl,rfl⟩:a0=a∧len=ls.length∧cap=cap':=by simpa using e
 exact ⟨a0,cap,ls,rfl,h1,hcap⟩
def fullB (x:Wd):Bool:=decide (x.at_.length=x.d.players.length)&&(decide (x.coins.length=x.d.players.length)&&decide (x.wher.length=x.d.items.length))
def mayX (x:Wd) (c:Wr):Bool:=decide (0≤c.id)&&((decide (c.kind=0)&&decide (c.id<x.at_.length))||((decide (c.kind=1)&&decide (c.id<x.coins.length))||(decide (c.kind=2)&&decide (c.id<x.wher.length))))
end Go.Proofs.YtnhkojpbbdaedaaGreat
