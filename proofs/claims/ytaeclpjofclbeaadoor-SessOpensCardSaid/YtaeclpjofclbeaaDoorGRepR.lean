/- reply: numbers, kinds of places, players and items within their limits; the document's own fit, Few. -/
import Derived.Test.YtaeclpjofclbeaaDoorGCmdC
namespace Go.Proofs.YtaeclpjofclbeaaDoor
open Go.ChangeShapes Go.WideShapes Go.ChangeAt Go.RowKit Go.Proofs.Tryd
open Lib (hid)
set_option linter.unusedVariables false
set_option maxRecDepth 100000
section
theorem Ch5 (x y:Int) (w:World):Ae (w.alloc (.cells #[.int .i64 x,.int .i64 y] 3)) (some ⟨w.heap.size,0,none⟩) [x,y]:=by
 refine ⟨by simp [maxLen],.inr ⟨w.heap.size,0,rfl,by simp,fun i hi=>?_⟩⟩
 rw [World.cell?_alloc_at _ _ _ _ rfl]
 match i,hi with
 | 0,_=>rfl
 | 1,_=>rfl
theorem Aw9 {xs:List Sn} {k:Nat} (h:k<xs.length) (ha:(xs.take k).all snB=true) (hk:snB xs[k]=true):(xs.take (k+1)).all snB=true:=by
 rw [List.take_succ_eq_append_getElem h,List.all_append,ha,Bool.true_and]
 simpa using hk
theorem By9 {xs:List Sn} {k:Nat} (h:k<xs.length) (hk:snB xs[k]=false):xs.all snB=false:=by
 rw [Bool.eq_false_iff];intro h2
 have:=List.all_eq_true.1 h2 xs[k] (List.getElem_mem h)
 rw [hk] at this;cases this
theorem Bk5 {xs:List Sn} (h:(xs.take xs.length).all snB=true):xs.all snB=true:=by
 rwa [List.take_of_length_le lr0] at h
end
section
theorem Ea8 {W w1:World} (hb:Below W.heap.size W w1):∀b o,b<W.heap.size→w1.cell? ⟨b,o,none⟩=W.cell? ⟨b,o,none⟩:=fun b o h=>hb.cell (p:=⟨b,o,none⟩) h
theorem Fy2 (a1 a2 a3 a6 b1 b2 b3 b6:Int) (ap bp:List Int) (ai bi:List Sn) (pa ia pb ib:Option Addr) (pc ic pcb icb:Nat) (w:World) (hn:¬(a1=b1∧a2=b2∧a3=b3∧a6=b6)) :
 Calls prog 20 #[.agg #[.int .i64 a1,.int .i64 a2,.int .i64 a3,.slice pa ap.length pc,.slice ia ai.length ic,.int .i64 a6],.agg #[.int .i64 b1,.int .i64 b2,.int .i64 b3,.slice pb bp.length pcb,.slice ib bi.length icb,.int .i64 b6]] w fun e w'=>e=.returned (.bool false)∧Below w.heap.size w w':=by
 by_cases e1:a1=b1
 case neg =>
  have hd:(a1==b1)=false:=by rw [beq_eq_false_iff_ne];exact e1
  clear hn e1
  go_enter func20,ntmps20
  go_wp2_with fail
  go_ret
  exact ⟨rfl,(b_a _).alloc (by simp) _⟩
 subst e1
 by_cases e2:a2=b2
 case neg =>
  have hd:(a2==b2)=false:=by rw [beq_eq_false_iff_ne];exact e2
  clear hn e2
  go_enter func20,ntmps20
  go_wp2_with fail
  go_ret
  exact ⟨rfl,(b_a _).alloc (by simp) _⟩
 subst e2
 by_cases e3:a3=b3
 case neg =>
  have hd:(a3==b3)=false:=by rw [beq_eq_false_iff_ne];exact e3
  clear hn e3
  go_enter func20,ntmps20
  go_wp2_with fail
  go_ret
  exact ⟨rfl,(b_a _).alloc (by simp) _⟩
 subst e3
 by_cases e6:a6=b6
 case neg =>
  have hd:(a6==b6)=false:=by rw [beq_eq_false_iff_ne];exact e6
  clear hn e6
  go_enter func20,ntmps20
  go_wp2_with fail
  go_ret
  exact ⟨rfl,(b_a _).alloc (by simp) _⟩
 subst e6
 exact absurd ⟨rfl,rfl,rfl,rfl⟩ hn
theorem Fd8 (v:Bool) (a1 a2 a3 a6:Int) (ap bp:List Int) (ai bi:List Sn) (pa ia pb ib:Option Addr) (pc ic pcb icb:Nat) (w:World) (hg:decide (ap=bp)=v) (h1:Ae w pa ap) (h2:Bd w ia ai) (h3:Ae w pb bp) (h4:Bd w ib bi) :
 Calls prog 20 #[.agg #[.int .i64 a1,.int .i64 a2,.int .i64 a3,.slice pa ap.length pc,.slice ia ai.length ic,.int .i64 a6],.agg #[.int .i64 a1,.int .i64 a2,.int .i64 a3,.slice pb bp.length pcb,.slice ib bi.length icb,.int .i64 a6]] w fun e w'=>e=.returned (.bool (v&&decide (ai=bi)))∧Below w.heap.size w w':=by
 have HG:=hid hg
 have H1:=hid h1
 have H2:=hid h2
 have H3:=hid h3
 have H4:=hid h4
 clear hg h1 h2 h3 h4
 cases v
 all_goals
  go_enter func20,ntmps20
  go_wp2_with fail
  refine (Dm _ _ _ _ _ _ _ ((H1.alloc _).alloc _) ((H3.alloc _).alloc _)).mono ?_
  rintro e w1 ⟨rfl,hb⟩
  rw [HG.out]
  have hbw:=hid ((((Below.refl _ w).alloc lr0 _).alloc (by simp) _).trans (hb.mono (by simp;omega)))
  have hc:=Ea8 hb
  have HB:=hid hb
  clear hb
  go_wp2_with fail
  try (refine (Eq7 _ _ _ _ _ _ _ (((H2.alloc _).alloc _).below HB.out lr0) (((H4.alloc _).alloc _).below HB.out lr0)).mono ?_;rintro e w2 ⟨rfl,hb2⟩;have hbw:=hid (bl hbw.out hb2);clear hb2;go_wp2_with fail)
  go_ret
  exact ⟨by simp,hbw.out⟩
theorem Hf (a b:Rp) (pa ia pb ib:Option Addr) (pc ic pcb icb:Nat) (w:World) (h1:Ae w pa a.players) (h2:Bd w ia a.items) (h3:Ae w pb b.players) (h4:Bd w ib b.items) :
 Calls prog 20 #[.agg #[.int .i64 a.err,.int .i64 a.kind,.int .i64 a.room,.slice pa a.players.length pc,.slice ia a.items.length ic,.int .i64 a.coins],.agg #[.int .i64 b.err,.int .i64 b.kind,.int .i64 b.room,.slice pb b.players.length pcb,.slice ib b.items.length icb,.int .i64 b.coins]] w fun e w'=>e=.returned (.bool (Gl a b))∧Below w.heap.size w w':=by
 obtain ⟨a1,a2,a3,ap,ai,a6⟩:=a
 obtain ⟨b1,b2,b3,bp,bi,b6⟩:=b
 by_cases h:a1=b1∧a2=b2∧a3=b3∧a6=b6
 ·obtain ⟨rfl,rfl,rfl,rfl⟩:=h
  rw [show Gl ⟨a1,a2,a3,ap,ai,a6⟩ ⟨a1,a2,a3,bp,bi,a6⟩=(decide (ap=bp)&&decide (ai=bi)) by simp [Gl]]
  exact Fd8 _ a1 a2 a3 a6 ap bp ai bi pa ia pb ib pc ic pcb icb w rfl h1 h2 h3 h4
 ·rw [show Gl ⟨a1,a2,a3,ap,ai,a6⟩ ⟨b1,b2,b3,bp,bi,b6⟩=false by rw [Bool.eq_false_iff];intro hh;have:=(Kn _ _).1 hh;simp only [Rp.mk.injEq] at this;exact h ⟨this.1,this.2.1,this.2.2.1,this.2.2.2.2.2⟩]
  exact Fy2 a1 a2 a3 a6 b1 b2 b3 b6 ap bp ai bi pa ia pb ib pc ic pcb icb w h
theorem Be5 (a1 a2 a3 a6 b1 b2 b3 b6:Int) (ap bp:List Int) (ai bi:List Sn) (pa ia pb ib:Option Addr) (pc ic pcb icb:Nat) (w:World) (hn:¬(a1=b1∧a2=b2∧a3=b3∧a6=b6)) :
 Calls prog 10 #[.agg #[.int .i64 a1,.int .i64 a2,.int .i64 a3,.slice pa ap.length pc,.slice ia ai.length ic,.int .i64 a6],.agg #[.int .i64 b1,.int .i64 b2,.int .i64 b3,.slice pb bp.length pcb,.slice ib bi.length icb,.int .i64 b6]] w fun e w'=>e=.returned (.bool false)∧Below w.heap.size w w':=by
 by_cases e1:a1=b1
 case neg =>
  have hd:(a1==b1)=false:=by rw [beq_eq_false_iff_ne];exact e1
  clear hn e1
  go_enter func10,ntmps10
  go_wp2_with fail
  go_ret
  exact ⟨rfl,(b_a _).alloc (by simp) _⟩
 subst e1
 by_cases e2:a2=b2
 case neg =>
  have hd:(a2==b2)=false:=by rw [beq_eq_false_iff_ne];exact e2
  clear hn e2
  go_enter func10,ntmps10
  go_wp2_with fail
  go_ret
  exact ⟨rfl,(b_a _).alloc (by simp) _⟩
 subst e2
 by_cases e3:a3=b3
 case neg =>
  have hd:(a3==b3)=false:=by rw [beq_eq_false_iff_ne];exact e3
  clear hn e3
  go_enter func10,ntmps10
  go_wp2_with fail
  go_ret
  exact ⟨rfl,(b_a _).alloc (by simp) _⟩
 subst e3
 by_cases e6:a6=b6
 case neg =>
  have hd:(a6==b6)=false:=by rw [beq_eq_false_iff_ne];exact e6
  clear hn e6
  go_enter func10,ntmps10
  go_wp2_with fail
  go_ret
  exact ⟨rfl,(b_a _).alloc (by simp) _⟩
 subst e6
 exact absurd ⟨rfl,rfl,rfl,rfl⟩ hn
theorem Ax1 (v:Bool) (a1 a2 a3 a6:Int) (ap bp:List Int) (ai bi:List Sn) (pa ia pb ib:Option Addr) (pc ic pcb icb:Nat) (w:World) (hg:decide (ap=bp)=v) (h1:Ae w pa ap) (h2:Bd w ia ai) (h3:Ae w pb bp) (h4:Bd w ib bi) :
 Calls prog 10 #[.agg #[.int .i64 a1,.int .i64 a2,.int .i64 a3,.slice pa ap.length pc,.slice ia ai.length ic,.int .i64 a6],.agg #[.int .i64 a1,.int .i64 a2,.int .i64 a3,.slice pb bp.length pcb,.slice ib bi.length icb,.int .i64 a6]] w fun e w'=>e=.returned (.bool (v&&decide (ai=bi)))∧Below w.heap.size w w':=by
 have HG:=hid hg
 have H1:=hid h1
 have H2:=hid h2
 have H3:=hid h3
 have H4:=hid h4
 clear hg h1 h2 h3 h4
 cases v
 all_goals
  go_enter func10,ntmps10
  go_wp2_with fail
  refine (Cn _ _ _ _ _ _ _ ((H1.alloc _).alloc _) ((H3.alloc _).alloc _)).mono ?_
  rintro e w1 ⟨rfl,hb⟩
  rw [HG.out]
  have hbw:=hid ((((Below.refl _ w).alloc lr0 _).alloc (by simp) _).trans (hb.mono (by simp;omega)))
  have hc:=Ea8 hb
  have HB:=hid hb
  clear hb
  go_wp2_with fail
  try (refine (Vq _ _ _ _ _ _ _ (((H2.alloc _).alloc _).below HB.out lr0) (((H4.alloc _).alloc _).below HB.out lr0)).mono ?_;rintro e w2 ⟨rfl,hb2⟩;have hbw:=hid (bl hbw.out hb2);clear hb2;go_wp2_with fail)
  go_ret
  exact ⟨by simp,hbw.out⟩
theorem Cs (a b:Rp) (pa ia pb ib:Option Addr) (pc ic pcb icb:Nat) (w:World) (h1:Ae w pa a.players) (h2:Bd w ia a.items) (h3:Ae w pb b.players) (h4:Bd w ib b.items) :
 Calls prog 10 #[.agg #[.int .i64 a.err,.int .i64 a.kind,.int .i64 a.room,.slice pa a.players.length pc,.slice ia a.items.length ic,.int .i64 a.coins],.agg #[.int .i64 b.err,.int .i64 b.kind,.int .i64 b.room,.slice pb b.players.length pcb,.slice ib b.items.length icb,.int .i64 b.coins]] w fun e w'=>e=.returned (.bool (Gl a b))∧Below w.heap.size w w':=by
 obtain ⟨a1,a2,a3,ap,ai,a6⟩:=a
 obtain ⟨b1,b2,b3,bp,bi,b6⟩:=b
 by_cases h:a1=b1∧a2=b2∧a3=b3∧a6=b6
 ·obtain ⟨rfl,rfl,rfl,rfl⟩:=h
  rw [show Gl ⟨a1,a2,a3,ap,ai,a6⟩ ⟨a1,a2,a3,bp,bi,a6⟩=(decide (ap=bp)&&decide (ai=bi)) by simp [Gl]]
  exact Ax1 _ a1 a2 a3 a6 ap bp ai bi pa ia pb ib pc ic pcb icb w rfl h1 h2 h3 h4
 ·rw [show Gl ⟨a1,a2,a3,ap,ai,a6⟩ ⟨b1,b2,b3,bp,bi,b6⟩=false by rw [Bool.eq_false_iff];intro hh;have:=(Kn _ _).1 hh;simp only [Rp.mk.injEq] at this;exact h ⟨this.1,this.2.1,this.2.2.1,this.2.2.2.2.2⟩]
  exact Be5 a1 a2 a3 a6 b1 b2 b3 b6 ap bp ai bi pa ia pb ib pc ic pcb icb w h
def Ph (r:Rp):Bool:=decide (r.players.length≤40)&&decide (r.items.length≤40)
theorem Oo (r:Rp) (pa ia:Option Addr) (pc ic:Nat) (w:World) (h1:Ae w pa r.players) (h2:Bd w ia r.items) :
 Calls prog 16 #[.agg #[.int .i64 r.err,.int .i64 r.kind,.int .i64 r.room,.slice pa r.players.length pc,.slice ia r.items.length ic,.int .i64 r.coins]] w fun e w'=>e=.returned (.bool (Ph r))∧Below w.heap.size w w':=by
 have l1:=h1.len
 have l2:=h2.len
 clear h1 h2
 by_cases k1:r.players.length≤40
 ·by_cases k2:r.items.length≤40
  ·have HF:=hid (show Ph r=true by simp [Ph,k1,k2])
   go_enter func16,ntmps16
   go_wp2_with fail
   go_ret
   exact ⟨by rw [HF.out];simp;omega,b_a _⟩
  ·have HF:=hid (show Ph r=false by simp [Ph,k2])
   go_enter func16,ntmps16
   go_wp2_with fail
   go_ret
   exact ⟨by rw [HF.out];simp;omega,b_a _⟩
 ·have HF:=hid (show Ph r=false by simp [Ph,k1])
  go_enter func16,ntmps16
  go_wp2_with fail
  go_ret
  exact ⟨Ag HF.symm,b_a _⟩
end
section
section
variable (k m c:Int) (ps:List Int) (is:List Sn) (pa ia:Option Addr) (pc ic:Nat) (w:World)
def Ee:Bool:=(roomB k||decide (m=0))&&(decide (k=9)||decide (ps.length=0))&&(decide (9≤k)||decide (is.length=0))&&(decide (k=10)||decide (c=0))
end
end
end Go.Proofs.YtaeclpjofclbeaaDoor
