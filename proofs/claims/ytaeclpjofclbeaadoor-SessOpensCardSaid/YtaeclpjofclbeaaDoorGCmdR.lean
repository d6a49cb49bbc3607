/- The document's own Same, Few, of commands. -/
import Derived.Test.YtaeclpjofclbeaaDoorGCmdC
namespace Go.Proofs.YtaeclpjofclbeaaDoor
open Go.ChangeShapes Go.WideShapes Go.ChangeAt Go.RowKit Go.Proofs.Tryd
open Lib (hid)
set_option linter.unusedVariables false
set_option maxRecDepth 100000
section
theorem Hh6 {W w1:World} (hb:Below W.heap.size W w1):∀b o,b<W.heap.size→w1.cell? ⟨b,o,none⟩=W.cell? ⟨b,o,none⟩:=fun b o h=>hb.cell (p:=⟨b,o,none⟩) h
theorem Ff5 (a1 a2 a3 a4 a5 a7 a9 b1 b2 b3 b4 b5 b7 b9:Int) (a6 a8 b6 b8:List Int) (ga wa gb wb:Option Addr) (gca wca gcb wcb:Nat) (w:World) (hn:¬(a1=b1∧a2=b2∧a3=b3∧a4=b4∧a5=b5∧a7=b7∧a9=b9)) :
 Calls prog 9 #[.agg #[.int .i64 a1,.int .i64 a2,.int .i64 a3,.int .i64 a4,.int .i64 a5,.slice ga a6.length gca,.int .i64 a7,.slice wa a8.length wca,.int .i64 a9],.agg #[.int .i64 b1,.int .i64 b2,.int .i64 b3,.int .i64 b4,.int .i64 b5,.slice gb b6.length gcb,.int .i64 b7,.slice wb b8.length wcb,.int .i64 b9]] w fun e w'=>e=.returned (.bool false)∧Below w.heap.size w w':=by
 by_cases e1:a1=b1
 case neg =>
  have hd:(a1==b1)=false:=by rw [beq_eq_false_iff_ne];exact e1
  clear hn e1
  have hCC:=@cC.eq_1
  go_enter func9,ntmps9
  go_wp2_with fail
  go_ret
  exact ⟨rfl,(b_a _).alloc (by simp) _⟩
 subst e1
 by_cases e2:a2=b2
 case neg =>
  have hd:(a2==b2)=false:=by rw [beq_eq_false_iff_ne];exact e2
  clear hn e2
  have hCC:=@cC.eq_1
  go_enter func9,ntmps9
  go_wp2_with fail
  go_ret
  exact ⟨rfl,(b_a _).alloc (by simp) _⟩
 subst e2
 by_cases e3:a3=b3
 case neg =>
  have hd:(a3==b3)=false:=by rw [beq_eq_false_iff_ne];exact e3
  clear hn e3
  have hCC:=@cC.eq_1
  go_enter func9,ntmps9
  go_wp2_with fail
  go_ret
  exact ⟨rfl,(b_a _).alloc (by simp) _⟩
 subst e3
 by_cases e4:a4=b4
 case neg =>
  have hd:(a4==b4)=false:=by rw [beq_eq_false_iff_ne];exact e4
  clear hn e4
  have hCC:=@cC.eq_1
  go_enter func9,ntmps9
  go_wp2_with fail
  go_ret
  exact ⟨rfl,(b_a _).alloc (by simp) _⟩
 subst e4
 by_cases e5:a5=b5
 case neg =>
  have hd:(a5==b5)=false:=by rw [beq_eq_false_iff_ne];exact e5
  clear hn e5
  have hCC:=@cC.eq_1
  go_enter func9,ntmps9
  go_wp2_with fail
  go_ret
  exact ⟨rfl,(b_a _).alloc (by simp) _⟩
 subst e5
 by_cases e7:a7=b7
 case neg =>
  have hd:(a7==b7)=false:=by rw [beq_eq_false_iff_ne];exact e7
  clear hn e7
  have hCC:=@cC.eq_1
  go_enter func9,ntmps9
  go_wp2_with fail
  go_ret
  exact ⟨rfl,(b_a _).alloc (by simp) _⟩
 subst e7
 by_cases e9:a9=b9
 case neg =>
  have hd:(a9==b9)=false:=by rw [beq_eq_false_iff_ne];exact e9
  clear hn e9
  have hCC:=@cC.eq_1
  go_enter func9,ntmps9
  go_wp2_with fail
  go_ret
  exact ⟨rfl,(b_a _).alloc (by simp) _⟩
 subst e9
 exact absurd ⟨rfl,rfl,rfl,rfl,rfl,rfl,rfl⟩ hn
theorem Rk (v:Bool) (a1 a2 a3 a4 a5 a7 a9:Int) (a6 a8 b6 b8:List Int) (ga wa gb wb:Option Addr) (gca wca gcb wcb:Nat) (w:World) (hg:decide (a6=b6)=v) (h1:Ae w ga a6) (h2:Ae w wa a8) (h3:Ae w gb b6) (h4:Ae w wb b8) :
 Calls prog 9 #[.agg #[.int .i64 a1,.int .i64 a2,.int .i64 a3,.int .i64 a4,.int .i64 a5,.slice ga a6.length gca,.int .i64 a7,.slice wa a8.length wca,.int .i64 a9],.agg #[.int .i64 a1,.int .i64 a2,.int .i64 a3,.int .i64 a4,.int .i64 a5,.slice gb b6.length gcb,.int .i64 a7,.slice wb b8.length wcb,.int .i64 a9]] w fun e w'=>e=.returned (.bool (v&&decide (a8=b8)))∧Below w.heap.size w w':=by
 have HG:=hid hg
 have H1:=hid h1
 have H2:=hid h2
 have H3:=hid h3
 have H4:=hid h4
 clear hg h1 h2 h3 h4
 cases v
 all_goals
  have hCC:=@cC.eq_1
  go_enter func9,ntmps9
  go_wp2_with fail
  refine (Cn _ _ _ _ _ _ _ ((H1.alloc _).alloc _) ((H3.alloc _).alloc _)).mono ?_
  rintro e w1 ⟨rfl,hb⟩
  rw [HG.out]
  have hbw:=hid ((((Below.refl _ w).alloc lr0 _).alloc (by simp) _).trans (hb.mono (by simp;omega)))
  have hc:=Hh6 hb
  have HB:=hid hb
  clear hb
  go_wp2_with fail
  try (refine (Cn _ _ _ _ _ _ _ (((H2.alloc _).alloc _).below HB.out lr0) (((H4.alloc _).alloc _).below HB.out lr0)).mono ?_;rintro e w2 ⟨rfl,hb2⟩;have hbw:=hid (bl hbw.out hb2);clear hb2;go_wp2_with fail)
  go_ret
  exact ⟨by simp,hbw.out⟩
theorem Cj (a b:Cm) (ga wa gb wb:Option Addr) (gca wca gcb wcb:Nat) (w:World) (h1:Ae w ga a.gives) (h2:Ae w wa a.wants) (h3:Ae w gb b.gives) (h4:Ae w wb b.wants) :
 Calls prog 9 #[.agg (cC a ga gca wa wca),.agg (cC b gb gcb wb wcb)] w fun e w'=>e=.returned (.bool (Gg a b))∧Below w.heap.size w w':=by
 obtain ⟨a1,a2,a3,a4,a5,a6,a7,a8,a9⟩:=a
 obtain ⟨b1,b2,b3,b4,b5,b6,b7,b8,b9⟩:=b
 by_cases h:a1=b1∧a2=b2∧a3=b3∧a4=b4∧a5=b5∧a7=b7∧a9=b9
 ·obtain ⟨rfl,rfl,rfl,rfl,rfl,rfl,rfl⟩:=h
  rw [show Gg ⟨a1,a2,a3,a4,a5,a6,a7,a8,a9⟩ ⟨a1,a2,a3,a4,a5,b6,a7,b8,a9⟩=(decide (a6=b6)&&decide (a8=b8)) by simp [Gg,Qe]]
  exact Rk _ a1 a2 a3 a4 a5 a7 a9 a6 a8 b6 b8 ga wa gb wb gca wca gcb wcb w rfl h1 h2 h3 h4
 ·rw [show Gg ⟨a1,a2,a3,a4,a5,a6,a7,a8,a9⟩ ⟨b1,b2,b3,b4,b5,b6,b7,b8,b9⟩=false by simp only [Gg,Qe,decide_eq_false h,Bool.false_and]]
  exact Ff5 a1 a2 a3 a4 a5 a7 a9 b1 b2 b3 b4 b5 b7 b9 a6 a8 b6 b8 ga wa gb wb gca wca gcb wcb w h
def Dz (c:Cm):Bool:=decide (c.gives.length≤40)&&decide (c.wants.length≤40)
theorem Cy (c:Cm) (ga wa:Option Addr) (gc wc:Nat) (w:World) (h1:Ae w ga c.gives) (h2:Ae w wa c.wants) :
 Calls prog 15 #[.agg (cC c ga gc wa wc)] w fun e w'=>e=.returned (.bool (Dz c))∧Below w.heap.size w w':=by
 have l1:=h1.len
 have l2:=h2.len
 clear h1 h2
 by_cases k1:c.gives.length≤40
 ·by_cases k2:c.wants.length≤40
  ·have HF:=hid (show Dz c=true by simp [Dz,k1,k2])
   have hCC:=@cC.eq_1
   go_enter func15,ntmps15
   go_wp2_with fail
   go_ret
   exact ⟨by rw [HF.out];simp;omega,b_a _⟩
  ·have HF:=hid (show Dz c=false by simp [Dz,k2])
   have hCC:=@cC.eq_1
   go_enter func15,ntmps15
   go_wp2_with fail
   go_ret
   exact ⟨by rw [HF.out];simp;omega,b_a _⟩
 ·have HF:=hid (show Dz c=false by simp [Dz,k1])
  have hCC:=@cC.eq_1
  go_enter func15,ntmps15
  go_wp2_with fail
  go_ret
  exact ⟨Ag HF.symm,b_a _⟩
end
section
end
section
end
end Go.Proofs.YtaeclpjofclbeaaDoor
