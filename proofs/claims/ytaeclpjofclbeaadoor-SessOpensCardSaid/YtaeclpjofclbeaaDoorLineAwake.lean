/- line: awake: the answers that the document fixes. -/
import Derived.Test.YtaeclpjofclbeaaDoorGLineR1
import Derived.Test.YtaeclpjofclbeaaDoorLineAwakeMath
namespace Go.Proofs.YtaeclpjofclbeaaDoor
open Go.ChangeShapes Go.WideShapes Go.ChangeAt Go.RowKit
set_option linter.unusedVariables false
open Go.RowKit Go
def Ah0 (w:World) (W:World):Prop:=Below w.heap.size w W∧w.heap.size+2≤W.heap.size∧Blk W (w.heap.size+1) 25 #[.int .i64 8,.int .i64 0,.int .i64 0,.int .i64 0,.int .i64 2,.slice (some ⟨w.heap.size,0,none⟩) 2 2,.int .i64 5,.slice none 0 0,.int .i64 0]∧Ae W (some ⟨w.heap.size,0,none⟩) [1,2]
theorem Ah0.call {w W W':World} (h:Ah0 w W) (hb:Below W.heap.size W W'):Ah0 w W':=⟨bl h.1 hb,Nat.le_trans h.2.1 hb.size,h.2.2.1.call hb,h.2.2.2.below hb lr0⟩
theorem Ah0.alloc {w W:World} (h:Ah0 w W) (o:Obj):Ah0 w (W.alloc o):=h.call (b_a _)
theorem Eo0 (x y:Int) (w:World):Ae (w.alloc (.cells #[.int .i64 x,.int .i64 y] 3)) (some ⟨w.heap.size,0,none⟩) [x,y]:=by
 refine (Blk.new w 3 #[.int .i64 x,.int .i64 y]).ints (by simp [maxLen]) (fun i hi=>?_)
 match i,hi with
 | 0,_=>rfl
 | 1,_=>rfl
theorem Ah0.start (w:World):Ah0 w ((w.alloc (.cells #[.int .i64 1,.int .i64 2] 3)).alloc (.cells #[.int .i64 8,.int .i64 0,.int .i64 0,.int .i64 0,.int .i64 2,.slice (some ⟨w.heap.size,0,none⟩) 2 2,.int .i64 5,.slice none 0 0,.int .i64 0] 25)) :=
 ⟨(b_a _).alloc (by simp) _,by simp,Blk.newn _ _ _ (by simp),(Eo0 1 2 w).below (b_a _) lr0⟩
def Nh (W:World) (g:Nat) (cs:Array Value) (c:Cm) (ga wa:Option Addr):Prop:=Blk W g 25 cs∧Ae W ga c.gives∧Ae W wa c.wants
theorem Nh.new {W:World} (cs:Array Value) {c:Cm} {ga wa:Option Addr} (h1:Ae W ga c.gives) (h2:Ae W wa c.wants):Nh (W.alloc (.cells cs 25)) W.heap.size cs c ga wa :=
 ⟨Blk.new _ _ _,h1.below (b_a _) lr0,h2.below (b_a _) lr0⟩
theorem Nh.call {W W':World} {g:Nat} {cs:Array Value} {c:Cm} {ga wa:Option Addr} (h:Nh W g cs c ga wa) (hb:Below W.heap.size W W'):Nh W' g cs c ga wa :=
 ⟨h.1.call hb,h.2.1.below hb lr0,h.2.2.below hb lr0⟩
theorem Nh.alloc {W:World} {g:Nat} {cs:Array Value} {c:Cm} {ga wa:Option Addr} (h:Nh W g cs c ga wa) (o:Obj):Nh (W.alloc o) g cs c ga wa:=h.call (b_a _)
theorem Cc5 {l:List UInt8} {ws:List (List UInt8)} {c:Cm} {b:Bool} {n:Int} (w:World) (hl:l.length≤1000) (hw:Aq l=ws) (hb:La ws=b) (hc:Ng ws=c) (hn:(if b then 0 else 2)=n) (ht:Tabs w) :
 Calls Tryd.prog 31 #[.string ⟨l.toArray⟩] w fun e w'=>∃ga gc wa wc,e=.returned (.tuple #[.agg (cC c ga gc wa wc),.int .i64 n])∧Ae w' ga c.gives∧Ae w' wa c.wants∧Below w.heap.size w w':=by
 subst hw hb hc hn
 refine (Ag7 ⟨l.toArray⟩ w (by show l.length≤_;omega) ht).mono ?_
 rintro e w' ⟨c,ga,gc,wa,wc,rfl,he,h1,h2,h3⟩
 exact ⟨ga,gc,wa,wc,he,h1,h2,h3⟩
theorem Ay2 {ws:List (List UInt8)} (h:La ws=false):Ng ws=Dh:=by unfold Ng;rw [h];rfl
theorem Hp1 (w:World) (ht:Tabs w):Calls Tryd.prog 31 #[.string ⟨#[32,116,114,97,100,101,32,50,32,32,103,105,118,101,32,49,32,50,32,99,111,105,110,115,32,53,32,102,111,114,32,99,111,105,110,115,32,48,32]⟩] w fun e w'=>∃ga gc wa wc,e=.returned (.tuple #[.agg (cC Zq ga gc wa wc),.int .i64 0])∧Ae w' ga (Zq:Cm).gives∧Ae w' wa (Zq:Cm).wants∧Below w.heap.size w w' :=
 Cc5 (l:=[32,116,114,97,100,101,32,50,32,32,103,105,118,101,32,49,32,50,32,99,111,105,110,115,32,53,32,102,111,114,32,99,111,105,110,115,32,48,32]) (n:=0) w (by decide) (by decide) Cx5.1 Cx5.2 rfl ht
theorem Hp0 (w:World) (ht:Tabs w):Calls Tryd.prog 31 #[.string ⟨#[116,114,97,100,101,32,50,32,103,105,118,101,32,49,32,50,32,99,111,105,110,115,32,53,32,102,111,114,32,99,111,105,110,115]⟩] w fun e w'=>∃ga gc wa wc,e=.returned (.tuple #[.agg (cC Dh ga gc wa wc),.int .i64 2])∧Ae w' ga (Dh:Cm).gives∧Ae w' wa (Dh:Cm).wants∧Below w.heap.size w w' :=
 Cc5 (l:=[116,114,97,100,101,32,50,32,103,105,118,101,32,49,32,50,32,99,111,105,110,115,32,53,32,102,111,114,32,99,111,105,110,115]) (n:=2) w (by decide) (by decide) Cx4 (Ay2 Cx4) rfl ht
theorem Ho9 (w:World) (ht:Tabs w):Calls Tryd.prog 31 #[.string ⟨#[109,111,118,101,32,119,101,115,116]⟩] w fun e w'=>∃ga gc wa wc,e=.returned (.tuple #[.agg (cC Bc5 ga gc wa wc),.int .i64 0])∧Ae w' ga (Bc5:Cm).gives∧Ae w' wa (Bc5:Cm).wants∧Below w.heap.size w w' :=
 Cc5 (l:=[109,111,118,101,32,119,101,115,116]) (n:=0) w (by decide) (by decide) Do4.1 Do4.2 rfl ht
theorem Ho8 (w:World) (ht:Tabs w):Calls Tryd.prog 31 #[.string ⟨#[109,111,118,101,32,119,101,115,116,32,119,101,115,116]⟩] w fun e w'=>∃ga gc wa wc,e=.returned (.tuple #[.agg (cC Dh ga gc wa wc),.int .i64 2])∧Ae w' ga (Dh:Cm).gives∧Ae w' wa (Dh:Cm).wants∧Below w.heap.size w w' :=
 Cc5 (l:=[109,111,118,101,32,119,101,115,116,32,119,101,115,116]) (n:=2) w (by decide) (by decide) Do3 (Ay2 Do3) rfl ht
theorem Ga1:Oz Zq=.tuple #[.string ⟨#[116,114,97,100,101,32,50,32,103,105,118,101,32,49,32,50,32,99,111,105,110,115,32,53,32,102,111,114,32,99,111,105,110,115,32,48]⟩,.int .i64 0]:=by
 unfold Oz
 rw [Dp0,if_pos rfl,if_pos rfl,Cm2]
 rfl
theorem Vo (c:Cm):Gg c c=true:=by simp [Gg,Qe]
end Go.Proofs.YtaeclpjofclbeaaDoor
