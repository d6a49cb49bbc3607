/- Lists of a world held against one another: slices.Equal of them, and the document's own Places. -/
import Derived.Test.YtenpcndoilcjcaaGWorld
namespace Go.Proofs.Ytenpcndoilcjcaa
open Go.ChangeShapes Go.WideShapes Go.ChangeAt Go.RowKit
set_option linter.unusedVariables false
section
theorem Kj (a1 a2 b1 b2:Int) (w:World):(binOp .neq 52 (.agg #[.int .i64 a1,.int .i64 a2]) (.agg #[.int .i64 b1,.int .i64 b2])).run Try.prog w=.ok (.bool (!decide ((⟨a1,a2⟩:Pl)=⟨b1,b2⟩))) w:=by
 by_cases e1:a1=b1
 ·by_cases e2:a2=b2
  ·subst e1 e2;go_simp
  ·go_simp
 ·go_simp
theorem Cs9 (a1 a2 a3 a4 b1 b2 b3 b4:Int) (w:World):(Op.equalIn (9999+1) 50 (.agg #[.int .i64 a1,.int .i64 a2,.int .i64 a3,.int .i64 a4]) (.agg #[.int .i64 b1,.int .i64 b2,.int .i64 b3,.int .i64 b4])).run Try.prog w=.ok (decide ((⟨a1,a2,a3,a4⟩:Ex)=⟨b1,b2,b3,b4⟩)) w:=by
 have hu:=Try.underlying3
 unfold Op.equalIn
 simp [run_underlying Try.underlying50,List.range',go_sem]
 by_cases e1:a1=b1
 ·by_cases e2:a2=b2
  ·by_cases e3:a3=b3
   ·by_cases e4:a4=b4
    ·simp [e1,e2,e3,e4]
    ·simp [e1,e2,e3,e4]
   ·simp [e1,e2,e3]
  ·simp [e1,e2]
 ·simp [e1]
theorem Dm8 (a1 a2 a3 a4 b1 b2 b3 b4:Int) (w:World):(binOp .neq 50 (.agg #[.int .i64 a1,.int .i64 a2,.int .i64 a3,.int .i64 a4]) (.agg #[.int .i64 b1,.int .i64 b2,.int .i64 b3,.int .i64 b4])).run Try.prog w=.ok (.bool (!decide ((⟨a1,a2,a3,a4⟩:Ex)=⟨b1,b2,b3,b4⟩))) w:=by
 rw [run_neq_struct,Cs9];rfl
end
section
end
section
structure SS (w:World) (A B C D:Array Value) (wr:World):Prop where
 a:Ac w w.heap.size A wr
 b:Ac w (w.heap.size+1) B wr
 c:Ac w (w.heap.size+2) C wr
 d:Ac w (w.heap.size+3) D wr
theorem SS.call {w wr w1:World} {A B C D:Array Value} (h:SS w A B C D wr) (hb:Below wr.heap.size wr w1):SS w A B C D w1:=⟨h.a.call hb,h.b.call hb,h.c.call hb,h.d.call hb⟩
theorem SS.drewN {w wr:World} {A B C D:Array Value} (h:SS w A B C D wr) (n:Nat):SS w A B C D (wr.drewN n):=⟨h.a.drewN n,h.b.drewN n,h.c.drewN n,h.d.drewN n⟩
theorem SS.start (w:World) (A B C D:Array Value) (t u:TypeId):SS w A B C D ((((w.alloc (.cells A t)).alloc (.cells B t)).alloc (.cells C u)).alloc (.cells D u)):=by
 have h1:=Ac.pair w A B t t
 have h2:=Ac.pair ((w.alloc (.cells A t)).alloc (.cells B t)) C D u u
 have e:((w.alloc (.cells A t)).alloc (.cells B t)).heap.size=w.heap.size+2:=by simp
 rw [e] at h2
 refine ⟨(h1.1.alloc _).alloc _,(h1.2.alloc _).alloc _,h2.1.from_ h1.1.1,?_⟩
 have h3:=h2.2.from_ h1.1.1
 rwa [show w.heap.size+2+1=w.heap.size+3 by omega] at h3
theorem Be1 {a b:Wd} (e0:a.d.players=b.d.players) (e1:a.d.coins=b.d.coins) (e2:a.d.items=b.d.items) (e3:a.at_=b.at_) (e4:a.coins=b.coins) (g0:a.d.exits=b.d.exits) (g1:a.d.boxes=b.d.boxes)
 (r0:a.d.room=b.d.room) (r1:a.d.player=b.d.player) (r2:a.d.box=b.d.box):decide (a=b)=decide (a.wher=b.wher):=by
 obtain ⟨⟨a1,a2,a3,a4,a5,a6,a7,a8⟩,a9,a10,a11⟩:=a
 obtain ⟨⟨b1,b2,b3,b4,b5,b6,b7,b8⟩,b9,b10,b11⟩:=b
 simp only at e0 e1 e2 e3 e4 g0 g1 r0 r1 r2
 subst e0 e1 e2 e3 e4 g0 g1 r0 r1 r2
 simp
end
end Go.Proofs.Ytenpcndoilcjcaa
