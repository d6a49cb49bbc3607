/- Lists of a world held against one another: slices.Equal of them, and the document's own Places. -/
import Derived.Test.YtnhkojpbbdaedaaGreatGWorld
namespace Go.Proofs.YtnhkojpbbdaedaaGreat
open Go.ChangeShapes Go.WideShapes Go.ChangeAt Go.RowKit Go.Proofs.Tryz
open Lib (hid)
set_option linter.unusedVariables false
set_option maxRecDepth 100000
section
theorem Kj (a1 a2 b1 b2:Int) (w:World):(binOp .neq 48 (.agg #[.int .i64 a1,.int .i64 a2]) (.agg #[.int .i64 b1,.int .i64 b2])).run prog w=.ok (.bool (!decide ((⟨a1,a2⟩:Pl)=⟨b1,b2⟩))) w:=by
 by_cases e1:a1=b1
 ·by_cases e2:a2=b2
  ·subst e1 e2;go_simp
  ·go_simp
 ·go_simp
theorem Cs9 (a1 a2 a3 a4 b1 b2 b3 b4:Int) (w:World):(Op.equalIn (9999+1) 75 (.agg #[.int .i64 a1,.int .i64 a2,.int .i64 a3,.int .i64 a4]) (.agg #[.int .i64 b1,.int .i64 b2,.int .i64 b3,.int .i64 b4])).run prog w=.ok (decide ((⟨a1,a2,a3,a4⟩:Ex)=⟨b1,b2,b3,b4⟩)) w:=by
 have hu:=underlying3
 unfold Op.equalIn
 simp [run_underlying underlying75,List.range',go_sem]
 by_cases e1:a1=b1
 ·by_cases e2:a2=b2
  ·by_cases e3:a3=b3
   ·by_cases e4:a4=b4
    ·simp [e1,e2,e3,e4]
    ·simp [e1,e2,e3,e4]
   ·simp [e1,e2,e3]
  ·simp [e1,e2]
 ·simp [e1]
theorem Dm8 (a1 a2 a3 a4 b1 b2 b3 b4:Int) (w:World):(binOp .neq 75 (.agg #[.int .i64 a1,.int .i64 a2,.int .i64 a3,.int .i64 a4]) (.agg #[.int .i64 b1,.int .i64 b2,.int .i64 b3,.int .i64 b4])).run prog w=.ok (.bool (!decide ((⟨a1,a2,a3,a4⟩:Ex)=⟨b1,b2,b3,b4⟩))) w:=by
 rw [run_neq_struct,Cs9];rfl
theorem Ae9 (a b:Option Addr) (ca cb:Nat) (xs ys:List Pl) (w:World) (hl:xs.length=ys.length) (h1:Au w a xs) (h2:Au w b ys) :
 Calls prog 31 #[.slice a xs.length ca,.slice b ys.length cb] w fun e w'=>e=.returned (.bool (decide (xs=ys)))∧Below w.heap.size w w':=by
 have hm:=h1.len
 have H1:=hid h1
 have H2:=hid h2
 have HL:=hid hl
 rw [←hl]
 clear h1 h2 hl
 go_enter func31,ntmps31
 go_wp2_with fail
 go_loopw [5] (fun i wr=>∃k:Nat,k≤xs.length∧i=.int .i64 k∧xs.take k=ys.take k∧Below w.heap.size w wr) (fun i _=>xs.length-(intOf i).toNat)
 case atStart=>exact ⟨0,Nat.zero_le _,rfl,rfl,Below.refl _ _⟩
 case round =>
  obtain ⟨k,hk,rfl,htk,hbel⟩:=hrel
  have HT:=hid htk
  clear htk
  by_cases hlt:k<xs.length
  ·have hy:k<ys.length:=by have:=HL.out;omega
   obtain ⟨xb,xo,rfl,hxb,c0,c1⟩:=Au.cells (Ar.below H1.out hbel (Nat.le_refl _)) hlt
   obtain ⟨yb,yo,rfl,hyb,d0,d1⟩:=Au.cells (Ar.below H2.out hbel (Nat.le_refl _)) hy
   clear H1 H2
   have HX:=hid (Ga hlt hy HT.out)
   have HN:Hid (¬xs[k]=ys[k]→¬xs=ys):=hid (fun h e=>by subst e;exact h rfl)
   generalize hx:xs[k]=x at *
   generalize hyy:ys[k]=y at *
   have G1:=hid hx
   have G2:=hid hyy
   clear hx hyy
   have hrun:=Kj x.kind x.id y.kind y.id
   obtain ⟨x0,x1⟩:=x
   obtain ⟨y0,y1⟩:=y
   by_cases he:(⟨x0,x1⟩:Pl)=⟨y0,y1⟩
   ·have HX2:=hid (HX.out he)
    simp only [he,decide_true,Bool.not_true] at hrun
    clear he
    go_wp2_with fail
    go_quiet (fail)
    go_wp2_with fail
    go_roundw
    case rel=>exact ⟨k+1,by omega,by go_num,HX2.out,Ib hbel _⟩
    case measure=>simp [intOf];omega
   ·have HD:=hid (show decide (xs=ys)=false by simpa using HN.out he)
    simp only [he,decide_false,Bool.not_false] at hrun
    clear he
    go_wp2_with fail
    go_quiet (fail)
    go_wp2_with fail
    go_ret
    exact ⟨Ag (by rw [HD.out]),Ib hbel _⟩
  ·have hke:k=xs.length:=by omega
   subst hke
   have HD:=hid (show decide (xs=ys)=true by
    have:=HT.out
    rw [List.take_of_length_le (Nat.le_refl _),HL.out,List.take_of_length_le (Nat.le_refl _)] at this
    simpa using this)
   clear H1 H2
   go_wp2_with fail
   go_ret
   exact ⟨Ag (by rw [HD.out]),hbel⟩
theorem Pi (a b:Option Addr) (ca cb:Nat) (xs ys:List Pl) (w:World) (h1:Au w a xs) (h2:Au w b ys) :
 Calls prog 31 #[.slice a xs.length ca,.slice b ys.length cb] w fun e w'=>e=.returned (.bool (decide (xs=ys)))∧Below w.heap.size w w':=by
 by_cases h:xs.length=ys.length
 ·exact Ae9 a b ca cb xs ys w h h1 h2
 ·have HD:=hid (show decide (xs=ys)=false by rw [decide_eq_false_iff_not];intro e;exact h (by rw [e]))
  rw [HD.out]
  have hl:=h1.len
  have hl2:=h2.len
  clear h1 h2
  have hb:((xs.length:Int)==(ys.length:Int))=false:=by rw [beq_eq_false_iff_ne];omega
  have hb2:((xs.length:Int) != (ys.length:Int))=true:=by rw [bne,hb];rfl
  go_enter func31,ntmps31
  go_wp2_with fail
  go_ret
  exact ⟨rfl,Below.refl _ _⟩
end
section
end
section
structure SS (w:World) (A B C D:Array Value) (wr:World):Prop where
 a:Ac w w.heap.size A wr
 b:Ac w (w.heap.size+1) B wr
 c:Ac w (w.heap.size+2) C wr
 d:Ac w (w.heap.size+3) D wr
theorem SS.call {w wr w1:World} {A B C D:Array Value} (h:SS w A B C D wr) (hb:Below wr.heap.size wr w1):SS w A B C D w1:=⟨h.a.call hb,h.b.call hb,h.c.call hb,h.d.call hb⟩
theorem SS.drewN {w wr:World} {A B C D:Array Value} (h:SS w A B C D wr) (n:Nat):SS w A B C D (wr.drewN n):=⟨h.a.drewN n,h.b.drewN n,h.c.drewN n,h.d.drewN n⟩
theorem SS.start (w:World) (A B C D:Array Value) (t u:TypeId):SS w A B C D ((((w.alloc (.cells A t)).alloc (.cells B t)).alloc (.cells C u)).alloc (.cells D u)):=by
 have h1:=Ac.pair w A B t t
 have h2:=Ac.pair ((w.alloc (.cells A t)).alloc (.cells B t)) C D u u
 have e:((w.alloc (.cells A t)).alloc (.cells B t)).heap.size=w.heap.size+2:=by simp
 rw [e] at h2
 refine ⟨(h1.1.alloc _).alloc _,(h1.2.alloc _).alloc _,h2.1.from_ h1.1.1,?_⟩
 have h3:=h2.2.from_ h1.1.1
 rwa [show w.heap.size+2+1=w.heap.size+3 by omega] at h3
theorem Be1 {a b:Wd} (e0:a.d.players=b.d.players) (e1:a.d.coins=b.d.coins) (e2:a.d.items=b.d.items) (e3:a.at_=b.at_) (e4:a.coins=b.coins) (g0:a.d.exits=b.d.exits) (g1:a.d.boxes=b.d.boxes)
 (r0:a.d.room=b.d.room) (r1:a.d.player=b.d.player) (r2:a.d.box=b.d.box):decide (a=b)=decide (a.wher=b.wher):=by
 obtain ⟨⟨a1,a2,a3,a4,a5,a6,a7,a8⟩,a9,a10,a11⟩:=a
 obtain ⟨⟨b1,b2,b3,b4,b5,b6,b7,b8⟩,b9,b10,b11⟩:=b
 simp only at e0 e1 e2 e3 e4 g0 g1 r0 r1 r2
 subst e0 e1 e2 e3 e4 g0 g1 r0 r1 r2
 simp
theorem Ax5 (a b:Wd) (p q:Wp) (w:World) (h:¬(a.d.room=b.d.room∧a.d.player=b.d.player∧a.d.box=b.d.box∧a.d.exits.length=b.d.exits.length∧a.d.boxes.length=b.d.boxes.length)) :
 Calls prog 11 #[.agg (wC a p),.agg (wC b q)] w fun e w'=>e=.returned (.bool (decide (a=b)))∧Below w.heap.size w w':=by
 have HR:=hid (show decide (a=b)=false from decide_eq_false (fun e=>h (by subst e;exact ⟨rfl,rfl,rfl,rfl,rfl⟩)))
 have HP:=hid (SS.start w (wC a p) (wC b q) (dC a.d p.d) (dC b.d q.d) 29 26)
 by_cases e0:a.d.room=b.d.room
 rotate_left
 ·have q0:(a.d.room != b.d.room)=true:=by simpa using e0
  clear h e0
  have hWC:=@wC.eq_1
  have hDC:=@dC.eq_1
  go_enter func11,ntmps11
  go_wp2_with fail
  go_ret
  exact ⟨Ag HR.out.symm,HP.out.a.1⟩
 by_cases e1:a.d.player=b.d.player
 rotate_left
 ·have q1:(a.d.player != b.d.player)=true:=by simpa using e1
  have q0:(a.d.room != b.d.room)=false:=by simpa using e0
  clear h e0 e1
  have hWC:=@wC.eq_1
  have hDC:=@dC.eq_1
  go_enter func11,ntmps11
  go_wp2_with fail
  go_ret
  exact ⟨Ag HR.out.symm,HP.out.a.1⟩
 by_cases e2:a.d.box=b.d.box
 rotate_left
 ·have q2:(a.d.box != b.d.box)=true:=by simpa using e2
  have q0:(a.d.room != b.d.room)=false:=by simpa using e0
  have q1:(a.d.player != b.d.player)=false:=by simpa using e1
  clear h e0 e1 e2
  have hWC:=@wC.eq_1
  have hDC:=@dC.eq_1
  go_enter func11,ntmps11
  go_wp2_with fail
  go_ret
  exact ⟨Ag HR.out.symm,HP.out.a.1⟩
 by_cases e3:a.d.exits.length=b.d.exits.length
 rotate_left
 ·have q3:((a.d.exits.length:Int) != (b.d.exits.length:Int))=true:=by simp;omega
  have q0:(a.d.room != b.d.room)=false:=by simpa using e0
  have q1:(a.d.player != b.d.player)=false:=by simpa using e1
  have q2:(a.d.box != b.d.box)=false:=by simpa using e2
  clear h e0 e1 e2 e3
  have hWC:=@wC.eq_1
  have hDC:=@dC.eq_1
  go_enter func11,ntmps11
  go_wp2_with fail
  go_ret
  exact ⟨Ag HR.out.symm,HP.out.a.1⟩
 by_cases e4:a.d.boxes.length=b.d.boxes.length
 rotate_left
 ·have q4:((a.d.boxes.length:Int) != (b.d.boxes.length:Int))=true:=by simp;omega
  have q0:(a.d.room != b.d.room)=false:=by simpa using e0
  have q1:(a.d.player != b.d.player)=false:=by simpa using e1
  have q2:(a.d.box != b.d.box)=false:=by simpa using e2
  have q3:((a.d.exits.length:Int) != (b.d.exits.length:Int))=false:=by simp;omega
  clear h e0 e1 e2 e3 e4
  have hWC:=@wC.eq_1
  have hDC:=@dC.eq_1
  go_enter func11,ntmps11
  go_wp2_with fail
  go_ret
  exact ⟨Ag HR.out.symm,HP.out.a.1⟩
 exact absurd ⟨e0,e1,e2,e3,e4⟩ h
set_option maxHeartbeats 1000000 in
theorem Bp4 (a b:Wd) (px pp pc pi pb pa pk pw:Option Addr) (pxc ppc pcc pic pbc pac pkc pwc:Nat) (qx qp qc qi qb qa qk qw:Option Addr) (qxc qpc qcc qic qbc qac qkc qwc:Nat) (w:World) (h1:Ab w ⟨⟨px,pxc,pp,ppc,pc,pcc,pi,pic,pb,pbc⟩,pa,pac,pk,pkc,pw,pwc⟩ a) (h2:Ab w ⟨⟨qx,qxc,qp,qpc,qc,qcc,qi,qic,qb,qbc⟩,qa,qac,qk,qkc,qw,qwc⟩ b)
 (h:a.d.room=b.d.room∧a.d.player=b.d.player∧a.d.box=b.d.box∧a.d.exits.length=b.d.exits.length∧a.d.boxes.length=b.d.boxes.length) :
 Calls prog 11 #[.agg (wC a ⟨⟨px,pxc,pp,ppc,pc,pcc,pi,pic,pb,pbc⟩,pa,pac,pk,pkc,pw,pwc⟩),.agg (wC b ⟨⟨qx,qxc,qp,qpc,qc,qcc,qi,qic,qb,qbc⟩,qa,qac,qk,qkc,qw,qwc⟩)] w fun e w'=>e=.returned (.bool (decide (a=b)))∧Below w.heap.size w w':=by
 have H1:=hid h1
 have H2:=hid h2
 have HE:=hid h
 obtain ⟨e0,e1,e2,e3,e4⟩:=h
 have q0:(a.d.room != b.d.room)=false:=by simpa using e0
 have q1:(a.d.player != b.d.player)=false:=by simpa using e1
 have q2:(a.d.box != b.d.box)=false:=by simpa using e2
 have q3:((a.d.exits.length:Int) != (b.d.exits.length:Int))=false:=by simp;omega
 have q4:((a.d.boxes.length:Int) != (b.d.boxes.length:Int))=false:=by simp;omega
 have hm:=h1.d.ex.len
 have hm2:=h1.d.bo.len
 have HP:=hid (SS.start w (wC a ⟨⟨px,pxc,pp,ppc,pc,pcc,pi,pic,pb,pbc⟩,pa,pac,pk,pkc,pw,pwc⟩) (wC b ⟨⟨qx,qxc,qp,qpc,qc,qcc,qi,qic,qb,qbc⟩,qa,qac,qk,qkc,qw,qwc⟩) (dC a.d ⟨px,pxc,pp,ppc,pc,pcc,pi,pic,pb,pbc⟩) (dC b.d ⟨qx,qxc,qp,qpc,qc,qcc,qi,qic,qb,qbc⟩) 29 26)
 clear e0 e1 e2 e3 e4 h1 h2
 have hWC:=@wC.eq_1
 have hDC:=@dC.eq_1
 go_enter func11,ntmps11
 go_wp2_with fail
 go_loopw [7] (fun i wr=>∃k:Nat,k≤a.d.exits.length∧i=.int .i64 k∧a.d.exits.take k=b.d.exits.take k∧SS w (wC a ⟨⟨px,pxc,pp,ppc,pc,pcc,pi,pic,pb,pbc⟩,pa,pac,pk,pkc,pw,pwc⟩) (wC b ⟨⟨qx,qxc,qp,qpc,qc,qcc,qi,qic,qb,qbc⟩,qa,qac,qk,qkc,qw,qwc⟩) (dC a.d ⟨px,pxc,pp,ppc,pc,pcc,pi,pic,pb,pbc⟩) (dC b.d ⟨qx,qxc,qp,qpc,qc,qcc,qi,qic,qb,qbc⟩) wr) (fun i _=>a.d.exits.length-(intOf i).toNat)
 case atStart=>exact ⟨0,Nat.zero_le _,rfl,rfl,HP.out⟩
 case round =>
  obtain ⟨k,hk,rfl,htk,hss⟩:=hrel
  clear HP
  have HT:=hid htk
  have HP:=hid hss
  clear htk hss
  have hc2:=HP.out.c.2.2
  have hc3:=HP.out.d.2.2
  by_cases hlt:k<a.d.exits.length
  ·have hy:k<b.d.exits.length:=by have:=HE.out;omega
   obtain ⟨xb,xo,rfl,hxb,c0,c1,c2,c3⟩:=Qu.cells (Ar.below (show Qu _ px a.d.exits from H1.out.d.ex) HP.out.a.1 (Nat.le_refl _)) hlt
   obtain ⟨yb,yo,rfl,hyb,d0,d1,d2,d3⟩:=Qu.cells (Ar.below (show Qu _ qx b.d.exits from H2.out.d.ex) HP.out.a.1 (Nat.le_refl _)) hy
   have HX:=hid (Ga hlt hy HT.out)
   have HN:Hid (¬a.d.exits[k]=b.d.exits[k]→¬a=b):=hid (fun h e=>by subst e;exact h rfl)
   generalize a.d.exits[k]=x at *
   generalize b.d.exits[k]=y at *
   have hrun:=Dm8 x.n x.e x.s x.w y.n y.e y.s y.w
   obtain ⟨x0,x1,x2,x3⟩:=x
   obtain ⟨y0,y1,y2,y3⟩:=y
   simp only at c0 c1 c2 c3 d0 d1 d2 d3
   by_cases he:(⟨x0,x1,x2,x3⟩:Ex)=⟨y0,y1,y2,y3⟩
   ·have HX2:=hid (HX.out he)
    simp only [he,decide_true,Bool.not_true] at hrun
    clear he HX HN
    go_wp2_with fail
    go_quiet (fail)
    go_wp2_with fail
    go_roundw
    case rel=>exact ⟨k+1,by omega,by go_num,HX2.out,HP.out.drewN _⟩
    case measure=>simp [intOf];omega
   ·have HD:=hid (show decide (a=b)=false by simpa using HN.out he)
    simp only [he,decide_false,Bool.not_false] at hrun
    clear he HX HN
    go_wp2_with fail
    go_quiet (fail)
    go_wp2_with fail
    go_ret
    exact ⟨Ag HD.out.symm,Ib HP.out.a.1 _⟩
  ·have hke:k=a.d.exits.length:=by omega
   subst hke
   have X0:=hid (show a.d.exits=b.d.exits by
    have:=HT.out
    rwa [List.take_of_length_le (Nat.le_refl _),HE.out.2.2.2.1,List.take_of_length_le (Nat.le_refl _)] at this)
   clear HT
   go_wp2_with fail
   clear hc2 hc3
   go_loopw [8] (fun i wr=>∃k:Nat,k≤a.d.boxes.length∧i=.int .i64 k∧a.d.boxes.take k=b.d.boxes.take k∧SS w (wC a ⟨⟨px,pxc,pp,ppc,pc,pcc,pi,pic,pb,pbc⟩,pa,pac,pk,pkc,pw,pwc⟩) (wC b ⟨⟨qx,qxc,qp,qpc,qc,qcc,qi,qic,qb,qbc⟩,qa,qac,qk,qkc,qw,qwc⟩) (dC a.d ⟨px,pxc,pp,ppc,pc,pcc,pi,pic,pb,pbc⟩) (dC b.d ⟨qx,qxc,qp,qpc,qc,qcc,qi,qic,qb,qbc⟩) wr) (fun i _=>a.d.boxes.length-(intOf i).toNat)
   case atStart=>exact ⟨0,Nat.zero_le _,rfl,rfl,HP.out⟩
   case round =>
    obtain ⟨k,hk,rfl,htk,hss⟩:=hrel
    clear HP
    have HT:=hid htk
    have HP:=hid hss
    clear htk hss
    have hc2:=HP.out.c.2.2
    have hc3:=HP.out.d.2.2
    by_cases hlt:k<a.d.boxes.length
    ·have hy:k<b.d.boxes.length:=by have:=HE.out;omega
     obtain ⟨xb,xo,rfl,hxb,c0⟩:=Mr.cells (Ar.below (show Mr _ pb a.d.boxes from H1.out.d.bo) HP.out.a.1 (Nat.le_refl _)) hlt
     obtain ⟨yb,yo,rfl,hyb,d0⟩:=Mr.cells (Ar.below (show Mr _ qb b.d.boxes from H2.out.d.bo) HP.out.a.1 (Nat.le_refl _)) hy
     have HX:=hid (Ga hlt hy HT.out)
     have HN:Hid (¬a.d.boxes[k]=b.d.boxes[k]→¬a=b):=hid (fun h e=>by subst e;exact h rfl)
     generalize a.d.boxes[k]=x at *
     generalize b.d.boxes[k]=y at *
     by_cases he:x=y
     ·subst he
      have HX2:=hid (HX.out rfl)
      clear HX HN
      cases x
      all_goals
       go_wp2_with fail
       go_quiet (fail)
       go_wp2_with fail
       go_roundw
       case rel=>exact ⟨k+1,by omega,by go_num,HX2.out,HP.out.drewN _⟩
       case measure=>simp [intOf];omega
     ·have HD:=hid (show decide (a=b)=false by simpa using HN.out he)
      clear HX HN
      cases x
      all_goals
       cases y
       all_goals
        first
        | exact absurd rfl he
        | (clear he
           go_wp2_with fail
           go_quiet (fail)
           go_wp2_with fail
           go_ret
           exact ⟨Ag HD.out.symm,Ib HP.out.a.1 _⟩)
    ·have hke:k=a.d.boxes.length:=by omega
     subst hke
     have X1:=hid (show a.d.boxes=b.d.boxes by
      have:=HT.out
      rwa [List.take_of_length_le (Nat.le_refl _),HE.out.2.2.2.2,List.take_of_length_le (Nat.le_refl _)] at this)
     clear HT hc2 hc3 q0 q1 q2 q3 q4
     have hc2:=HP.out.c.2.2
     have hc3:=HP.out.d.2.2
     by_cases e0:a.d.players=b.d.players
     rotate_left
     ·have Y0:=hid (show decide (a.d.players=b.d.players)=false from decide_eq_false e0)
      have HR:=hid (show decide (a=b)=false from decide_eq_false (fun h=>e0 (by rw [h])))
      clear e0
      go_wp2_with fail
      refine (Cn _ _ _ _ a.d.players b.d.players _ (H1.out.below HP.out.a.1 (Nat.le_refl _)).d.pl (H2.out.below HP.out.a.1 (Nat.le_refl _)).d.pl).mono ?_
      rintro e v0 ⟨rfl,b0⟩
      rw [Y0.out]
      have HQ0:=hid (HP.out.call b0)
      clear b0
      go_wp2_with fail
      go_ret
      exact ⟨Ag HR.out.symm,HQ0.out.a.1⟩
     by_cases e1:a.d.coins=b.d.coins
     rotate_left
     ·have Y1:=hid (show decide (a.d.coins=b.d.coins)=false from decide_eq_false e1)
      have Y0:=hid (show decide (a.d.players=b.d.players)=true from decide_eq_true e0)
      have HR:=hid (show decide (a=b)=false from decide_eq_false (fun h=>e1 (by rw [h])))
      clear e0 e1
      go_wp2_with fail
      refine (Cn _ _ _ _ a.d.players b.d.players _ (H1.out.below HP.out.a.1 (Nat.le_refl _)).d.pl (H2.out.below HP.out.a.1 (Nat.le_refl _)).d.pl).mono ?_
      rintro e v0 ⟨rfl,b0⟩
      rw [Y0.out]
      have HQ0:=hid (HP.out.call b0)
      clear b0
      clear hc2 hc3
      have hc0:=HQ0.out.a.2.2
      have hc1:=HQ0.out.b.2.2
      have hc2:=HQ0.out.c.2.2
      have hc3:=HQ0.out.d.2.2
      go_wp2_with fail
      clear hc0 hc1 hc2 hc3
      refine (Cn _ _ _ _ a.d.coins b.d.coins v0 (H1.out.below HQ0.out.a.1 (Nat.le_refl _)).d.co (H2.out.below HQ0.out.a.1 (Nat.le_refl _)).d.co).mono ?_
      rintro e v1 ⟨rfl,b1⟩
      rw [Y1.out]
      have HQ1:=hid (HQ0.out.call b1)
      clear b1
      go_wp2_with fail
      go_ret
      exact ⟨Ag HR.out.symm,HQ1.out.a.1⟩
     by_cases e2:a.d.items=b.d.items
     rotate_left
     ·have Y2:=hid (show decide (a.d.items=b.d.items)=false from decide_eq_false e2)
      have Y0:=hid (show decide (a.d.players=b.d.players)=true from decide_eq_true e0)
      have Y1:=hid (show decide (a.d.coins=b.d.coins)=true from decide_eq_true e1)
      have HR:=hid (show decide (a=b)=false from decide_eq_false (fun h=>e2 (by rw [h])))
      clear e0 e1 e2
      go_wp2_with fail
      refine (Cn _ _ _ _ a.d.players b.d.players _ (H1.out.below HP.out.a.1 (Nat.le_refl _)).d.pl (H2.out.below HP.out.a.1 (Nat.le_refl _)).d.pl).mono ?_
      rintro e v0 ⟨rfl,b0⟩
      rw [Y0.out]
      have HQ0:=hid (HP.out.call b0)
      clear b0
      clear hc2 hc3
      have hc0:=HQ0.out.a.2.2
      have hc1:=HQ0.out.b.2.2
      have hc2:=HQ0.out.c.2.2
      have hc3:=HQ0.out.d.2.2
      go_wp2_with fail
      clear hc0 hc1 hc2 hc3
      refine (Cn _ _ _ _ a.d.coins b.d.coins v0 (H1.out.below HQ0.out.a.1 (Nat.le_refl _)).d.co (H2.out.below HQ0.out.a.1 (Nat.le_refl _)).d.co).mono ?_
      rintro e v1 ⟨rfl,b1⟩
      rw [Y1.out]
      have HQ1:=hid (HQ0.out.call b1)
      clear b1
      have hc0:=HQ1.out.a.2.2
      have hc1:=HQ1.out.b.2.2
      have hc2:=HQ1.out.c.2.2
      have hc3:=HQ1.out.d.2.2
      go_wp2_with fail
      clear hc0 hc1 hc2 hc3
      refine (Cn _ _ _ _ a.d.items b.d.items v1 (H1.out.below HQ1.out.a.1 (Nat.le_refl _)).d.it (H2.out.below HQ1.out.a.1 (Nat.le_refl _)).d.it).mono ?_
      rintro e v2 ⟨rfl,b2⟩
      rw [Y2.out]
      have HQ2:=hid (HQ1.out.call b2)
      clear b2
      go_wp2_with fail
      go_ret
      exact ⟨Ag HR.out.symm,HQ2.out.a.1⟩
     by_cases e3:a.at_=b.at_
     rotate_left
     ·have Y3:=hid (show decide (a.at_=b.at_)=false from decide_eq_false e3)
      have Y0:=hid (show decide (a.d.players=b.d.players)=true from decide_eq_true e0)
      have Y1:=hid (show decide (a.d.coins=b.d.coins)=true from decide_eq_true e1)
      have Y2:=hid (show decide (a.d.items=b.d.items)=true from decide_eq_true e2)
      have HR:=hid (show decide (a=b)=false from decide_eq_false (fun h=>e3 (by rw [h])))
      clear e0 e1 e2 e3
      go_wp2_with fail
      refine (Cn _ _ _ _ a.d.players b.d.players _ (H1.out.below HP.out.a.1 (Nat.le_refl _)).d.pl (H2.out.below HP.out.a.1 (Nat.le_refl _)).d.pl).mono ?_
      rintro e v0 ⟨rfl,b0⟩
      rw [Y0.out]
      have HQ0:=hid (HP.out.call b0)
      clear b0
      clear hc2 hc3
      have hc0:=HQ0.out.a.2.2
      have hc1:=HQ0.out.b.2.2
      have hc2:=HQ0.out.c.2.2
      have hc3:=HQ0.out.d.2.2
      go_wp2_with fail
      clear hc0 hc1 hc2 hc3
      refine (Cn _ _ _ _ a.d.coins b.d.coins v0 (H1.out.below HQ0.out.a.1 (Nat.le_refl _)).d.co (H2.out.below HQ0.out.a.1 (Nat.le_refl _)).d.co).mono ?_
      rintro e v1 ⟨rfl,b1⟩
      rw [Y1.out]
      have HQ1:=hid (HQ0.out.call b1)
      clear b1
      have hc0:=HQ1.out.a.2.2
      have hc1:=HQ1.out.b.2.2
      have hc2:=HQ1.out.c.2.2
      have hc3:=HQ1.out.d.2.2
      go_wp2_with fail
      clear hc0 hc1 hc2 hc3
      refine (Cn _ _ _ _ a.d.items b.d.items v1 (H1.out.below HQ1.out.a.1 (Nat.le_refl _)).d.it (H2.out.below HQ1.out.a.1 (Nat.le_refl _)).d.it).mono ?_
      rintro e v2 ⟨rfl,b2⟩
      rw [Y2.out]
      have HQ2:=hid (HQ1.out.call b2)
      clear b2
      have hc0:=HQ2.out.a.2.2
      have hc1:=HQ2.out.b.2.2
      have hc2:=HQ2.out.c.2.2
      have hc3:=HQ2.out.d.2.2
      go_wp2_with fail
      clear hc0 hc1 hc2 hc3
      refine (Cn _ _ _ _ a.at_ b.at_ v2 (H1.out.below HQ2.out.a.1 (Nat.le_refl _)).at_ (H2.out.below HQ2.out.a.1 (Nat.le_refl _)).at_).mono ?_
      rintro e v3 ⟨rfl,b3⟩
      rw [Y3.out]
      have HQ3:=hid (HQ2.out.call b3)
      clear b3
      go_wp2_with fail
      go_ret
      exact ⟨Ag HR.out.symm,HQ3.out.a.1⟩
     by_cases e4:a.coins=b.coins
     rotate_left
     ·have Y4:=hid (show decide (a.coins=b.coins)=false from decide_eq_false e4)
      have Y0:=hid (show decide (a.d.players=b.d.players)=true from decide_eq_true e0)
      have Y1:=hid (show decide (a.d.coins=b.d.coins)=true from decide_eq_true e1)
      have Y2:=hid (show decide (a.d.items=b.d.items)=true from decide_eq_true e2)
      have Y3:=hid (show decide (a.at_=b.at_)=true from decide_eq_true e3)
      have HR:=hid (show decide (a=b)=false from decide_eq_false (fun h=>e4 (by rw [h])))
      clear e0 e1 e2 e3 e4
      go_wp2_with fail
      refine (Cn _ _ _ _ a.d.players b.d.players _ (H1.out.below HP.out.a.1 (Nat.le_refl _)).d.pl (H2.out.below HP.out.a.1 (Nat.le_refl _)).d.pl).mono ?_
      rintro e v0 ⟨rfl,b0⟩
      rw [Y0.out]
      have HQ0:=hid (HP.out.call b0)
      clear b0
      clear hc2 hc3
      have hc0:=HQ0.out.a.2.2
      have hc1:=HQ0.out.b.2.2
      have hc2:=HQ0.out.c.2.2
      have hc3:=HQ0.out.d.2.2
      go_wp2_with fail
      clear hc0 hc1 hc2 hc3
      refine (Cn _ _ _ _ a.d.coins b.d.coins v0 (H1.out.below HQ0.out.a.1 (Nat.le_refl _)).d.co (H2.out.below HQ0.out.a.1 (Nat.le_refl _)).d.co).mono ?_
      rintro e v1 ⟨rfl,b1⟩
      rw [Y1.out]
      have HQ1:=hid (HQ0.out.call b1)
      clear b1
      have hc0:=HQ1.out.a.2.2
      have hc1:=HQ1.out.b.2.2
      have hc2:=HQ1.out.c.2.2
      have hc3:=HQ1.out.d.2.2
      go_wp2_with fail
      clear hc0 hc1 hc2 hc3
      refine (Cn _ _ _ _ a.d.items b.d.items v1 (H1.out.below HQ1.out.a.1 (Nat.le_refl _)).d.it (H2.out.below HQ1.out.a.1 (Nat.le_refl _)).d.it).mono ?_
      rintro e v2 ⟨rfl,b2⟩
      rw [Y2.out]
      have HQ2:=hid (HQ1.out.call b2)
      clear b2
      have hc0:=HQ2.out.a.2.2
      have hc1:=HQ2.out.b.2.2
      have hc2:=HQ2.out.c.2.2
      have hc3:=HQ2.out.d.2.2
      go_wp2_with fail
      clear hc0 hc1 hc2 hc3
      refine (Cn _ _ _ _ a.at_ b.at_ v2 (H1.out.below HQ2.out.a.1 (Nat.le_refl _)).at_ (H2.out.below HQ2.out.a.1 (Nat.le_refl _)).at_).mono ?_
      rintro e v3 ⟨rfl,b3⟩
      rw [Y3.out]
      have HQ3:=hid (HQ2.out.call b3)
      clear b3
      have hc0:=HQ3.out.a.2.2
      have hc1:=HQ3.out.b.2.2
      have hc2:=HQ3.out.c.2.2
      have hc3:=HQ3.out.d.2.2
      go_wp2_with fail
      clear hc0 hc1 hc2 hc3
      refine (Cn _ _ _ _ a.coins b.coins v3 (H1.out.below HQ3.out.a.1 (Nat.le_refl _)).co (H2.out.below HQ3.out.a.1 (Nat.le_refl _)).co).mono ?_
      rintro e v4 ⟨rfl,b4⟩
      rw [Y4.out]
      have HQ4:=hid (HQ3.out.call b4)
      clear b4
      go_wp2_with fail
      go_ret
      exact ⟨Ag HR.out.symm,HQ4.out.a.1⟩
     have Y0:=hid (show decide (a.d.players=b.d.players)=true from decide_eq_true e0)
     have Y1:=hid (show decide (a.d.coins=b.d.coins)=true from decide_eq_true e1)
     have Y2:=hid (show decide (a.d.items=b.d.items)=true from decide_eq_true e2)
     have Y3:=hid (show decide (a.at_=b.at_)=true from decide_eq_true e3)
     have Y4:=hid (show decide (a.coins=b.coins)=true from decide_eq_true e4)
     have HR:=hid (Be1 e0 e1 e2 e3 e4 X0.out X1.out HE.out.1 HE.out.2.1 HE.out.2.2.1)
     clear e0 e1 e2 e3 e4
     go_wp2_with fail
     refine (Cn _ _ _ _ a.d.players b.d.players _ (H1.out.below HP.out.a.1 (Nat.le_refl _)).d.pl (H2.out.below HP.out.a.1 (Nat.le_refl _)).d.pl).mono ?_
     rintro e v0 ⟨rfl,b0⟩
     rw [Y0.out]
     have HQ0:=hid (HP.out.call b0)
     clear b0
     clear hc2 hc3
     have hc0:=HQ0.out.a.2.2
     have hc1:=HQ0.out.b.2.2
     have hc2:=HQ0.out.c.2.2
     have hc3:=HQ0.out.d.2.2
     go_wp2_with fail
     clear hc0 hc1 hc2 hc3
     refine (Cn _ _ _ _ a.d.coins b.d.coins v0 (H1.out.below HQ0.out.a.1 (Nat.le_refl _)).d.co (H2.out.below HQ0.out.a.1 (Nat.le_refl _)).d.co).mono ?_
     rintro e v1 ⟨rfl,b1⟩
     rw [Y1.out]
     have HQ1:=hid (HQ0.out.call b1)
     clear b1
     have hc0:=HQ1.out.a.2.2
     have hc1:=HQ1.out.b.2.2
     have hc2:=HQ1.out.c.2.2
     have hc3:=HQ1.out.d.2.2
     go_wp2_with fail
     clear hc0 hc1 hc2 hc3
     refine (Cn _ _ _ _ a.d.items b.d.items v1 (H1.out.below HQ1.out.a.1 (Nat.le_refl _)).d.it (H2.out.below HQ1.out.a.1 (Nat.le_refl _)).d.it).mono ?_
     rintro e v2 ⟨rfl,b2⟩
     rw [Y2.out]
     have HQ2:=hid (HQ1.out.call b2)
     clear b2
     have hc0:=HQ2.out.a.2.2
     have hc1:=HQ2.out.b.2.2
     have hc2:=HQ2.out.c.2.2
     have hc3:=HQ2.out.d.2.2
     go_wp2_with fail
     clear hc0 hc1 hc2 hc3
     refine (Cn _ _ _ _ a.at_ b.at_ v2 (H1.out.below HQ2.out.a.1 (Nat.le_refl _)).at_ (H2.out.below HQ2.out.a.1 (Nat.le_refl _)).at_).mono ?_
     rintro e v3 ⟨rfl,b3⟩
     rw [Y3.out]
     have HQ3:=hid (HQ2.out.call b3)
     clear b3
     have hc0:=HQ3.out.a.2.2
     have hc1:=HQ3.out.b.2.2
     have hc2:=HQ3.out.c.2.2
     have hc3:=HQ3.out.d.2.2
     go_wp2_with fail
     clear hc0 hc1 hc2 hc3
     refine (Cn _ _ _ _ a.coins b.coins v3 (H1.out.below HQ3.out.a.1 (Nat.le_refl _)).co (H2.out.below HQ3.out.a.1 (Nat.le_refl _)).co).mono ?_
     rintro e v4 ⟨rfl,b4⟩
     rw [Y4.out]
     have HQ4:=hid (HQ3.out.call b4)
     clear b4
     have hc0:=HQ4.out.a.2.2
     have hc1:=HQ4.out.b.2.2
     have hc2:=HQ4.out.c.2.2
     have hc3:=HQ4.out.d.2.2
     go_wp2_with fail
     clear hc0 hc1 hc2 hc3
     refine (Pi _ _ _ _ a.wher b.wher v4 (H1.out.below HQ4.out.a.1 (Nat.le_refl _)).wh (H2.out.below HQ4.out.a.1 (Nat.le_refl _)).wh).mono ?_
     rintro e v5 ⟨rfl,b5⟩
     have HQ5:=hid (HQ4.out.call b5)
     clear b5
     go_wp2_with fail
     go_ret
     exact ⟨Ag HR.out.symm,HQ5.out.a.1⟩
theorem Nr (a b:Wd) (p q:Wp) (w:World) (h1:Ab w p a) (h2:Ab w q b) :
 Calls prog 11 #[.agg (wC a p),.agg (wC b q)] w fun e w'=>e=.returned (.bool (decide (a=b)))∧Below w.heap.size w w':=by
 by_cases h:a.d.room=b.d.room∧a.d.player=b.d.player∧a.d.box=b.d.box∧a.d.exits.length=b.d.exits.length∧a.d.boxes.length=b.d.boxes.length
 ·exact Bp4 a b p.d.ex p.d.pl p.d.co p.d.it p.d.bo p.at_ p.co p.wh p.d.exc p.d.plc p.d.coc p.d.itc p.d.boc p.atc p.coc p.whc q.d.ex q.d.pl q.d.co q.d.it q.d.bo q.at_ q.co q.wh q.d.exc q.d.plc q.d.coc q.d.itc q.d.boc q.atc q.coc q.whc w h1 h2 h
 ·exact Ax5 a b p q w h
end
end Go.Proofs.YtnhkojpbbdaedaaGreat
