/- The document's own Same, Few, of commands. -/
import Derived.Test.YtnhkojpbbdaedaaGreatGCmdC
namespace Go.Proofs.YtnhkojpbbdaedaaGreat
open Go.ChangeShapes Go.WideShapes Go.ChangeAt Go.RowKit Go.Proofs.Tryz
open Lib (hid)
set_option linter.unusedVariables false
set_option maxHeartbeats 1000000
set_option maxRecDepth 100000
section
theorem Hh6 {W w1:World} (hb:Below W.heap.size W w1):∀b o,b<W.heap.size→w1.cell? ⟨b,o,none⟩=W.cell? ⟨b,o,none⟩:=fun b o h=>hb.cell (p:=⟨b,o,none⟩) h
def Dz (c:Cm):Bool:=decide (c.gives.length≤40)&&decide (c.wants.length≤40)
theorem Cy (c:Cm) (ga wa:Option Addr) (gc wc:Nat) (w:World) (h1:Ae w ga c.gives) (h2:Ae w wa c.wants) :
 Calls prog 7 #[.agg (cC c ga gc wa wc)] w fun e w'=>e=.returned (.bool (Dz c))∧Below w.heap.size w w':=by
 have l1:=h1.len
 have l2:=h2.len
 clear h1 h2
 by_cases k1:c.gives.length≤40
 ·by_cases k2:c.wants.length≤40
  ·have HF:=hid (show Dz c=true by simp [Dz,k1,k2])
   have hCC:=@cC.eq_1
   go_enter func7,ntmps7
   go_wp2_with fail
   go_ret
   exact ⟨by rw [HF.out];simp;omega,b_a _⟩
  ·have HF:=hid (show Dz c=false by simp [Dz,k2])
   have hCC:=@cC.eq_1
   go_enter func7,ntmps7
   go_wp2_with fail
   go_ret
   exact ⟨by rw [HF.out];simp;omega,b_a _⟩
 ·have HF:=hid (show Dz c=false by simp [Dz,k1])
  have hCC:=@cC.eq_1
  go_enter func7,ntmps7
  go_wp2_with fail
  go_ret
  exact ⟨Ag HF.out.symm,b_a _⟩
end
section
theorem Bq4 (D i b h p f:Int) (gs ws:List Int) (ga wa:Option Addr) (gc wc:Nat) (w:World) (d0:0≤D) (d3:D≤3) (h1:Ae w ga gs) (h2:Ae w wa ws) :
 Calls prog 8 #[.agg #[.int .i64 1,.int .i64 D,.int .i64 i,.int .i64 b,.int .i64 h,.slice ga gs.length gc,.int .i64 p,.slice wa ws.length wc,.int .i64 f]] w fun e w'=>e=.returned (.bool (Ak ⟨1,D,i,b,h,gs,p,ws,f⟩))∧Below w.heap.size w w':=by
 have HB:=hid (show Ak ⟨1,D,i,b,h,gs,p,ws,f⟩=(Cf i false&&Cf b false&&Cf h false&&Cf p false&&Cf f false&&rowB gs false&&rowB ws false) by
  simp [Ak,Dl,Co,Cq,has,d0,show D<4 by omega];try omega)
 have H1:=hid h1
 have H2:=hid h2
 clear h1 h2
 by_cases dz:D=0
 ·subst dz
  go_enter func8,ntmps8
  go_wp2_with (first|(go_at_call 24;(with_reducible refine (Hg _ _ _).mono ?_);rintro e w' ⟨rfl,rfl⟩)|(go_at_call 25;(with_reducible refine (Eb _ _ _ _ _ (H1.out.alloc _)).mono ?_);rintro e w' ⟨rfl,rfl⟩)|(go_at_call 25;(with_reducible refine (Eb _ _ _ _ _ (H2.out.alloc _)).mono ?_);rintro e w' ⟨rfl,rfl⟩))
  all_goals
   go_ret
   exact ⟨Ag (by rw [HB.out];simp [*]),b_a _⟩
 ·have hd:(D != 0)=true:=by simpa using dz
  clear dz
  go_enter func8,ntmps8
  go_wp2_with (first|(go_at_call 24;(with_reducible refine (Hg _ _ _).mono ?_);rintro e w' ⟨rfl,rfl⟩)|(go_at_call 25;(with_reducible refine (Eb _ _ _ _ _ (H1.out.alloc _)).mono ?_);rintro e w' ⟨rfl,rfl⟩)|(go_at_call 25;(with_reducible refine (Eb _ _ _ _ _ (H2.out.alloc _)).mono ?_);rintro e w' ⟨rfl,rfl⟩))
  all_goals
   go_ret
   exact ⟨Ag (by rw [HB.out];simp [*]),b_a _⟩
theorem Db1 (D i b h p f:Int) (gs ws:List Int) (ga wa:Option Addr) (gc wc:Nat) (w:World) (h1:Ae w ga gs) (h2:Ae w wa ws) :
 Calls prog 8 #[.agg #[.int .i64 1,.int .i64 D,.int .i64 i,.int .i64 b,.int .i64 h,.slice ga gs.length gc,.int .i64 p,.slice wa ws.length wc,.int .i64 f]] w fun e w'=>e=.returned (.bool (Ak ⟨1,D,i,b,h,gs,p,ws,f⟩))∧Below w.heap.size w w':=by
 by_cases d0:0≤D
 case neg =>
  have HF:=hid (show Ak ⟨1,D,i,b,h,gs,p,ws,f⟩=false by simp [Ak,Dl,Cq,d0])
  clear h1 h2
  go_enter func8,ntmps8
  go_wp2_with fail
  go_ret
  exact ⟨Ag HF.out.symm,b_a _⟩
 by_cases d3:D≤3
 case neg =>
  have HF:=hid (show Ak ⟨1,D,i,b,h,gs,p,ws,f⟩=false by simp [Ak,Dl,Cq,show ¬D<4 by omega])
  clear h1 h2
  go_enter func8,ntmps8
  go_wp2_with fail
  go_ret
  exact ⟨Ag HF.out.symm,b_a _⟩
 exact Bq4 D i b h p f gs ws ga wa gc wc w d0 d3 h1 h2
theorem Bq3 (D i b h p f:Int) (gs ws:List Int) (ga wa:Option Addr) (gc wc:Nat) (w:World) (d0:0≤D) (d3:D≤3) (h1:Ae w ga gs) (h2:Ae w wa ws) :
 Calls prog 8 #[.agg #[.int .i64 2,.int .i64 D,.int .i64 i,.int .i64 b,.int .i64 h,.slice ga gs.length gc,.int .i64 p,.slice wa ws.length wc,.int .i64 f]] w fun e w'=>e=.returned (.bool (Ak ⟨2,D,i,b,h,gs,p,ws,f⟩))∧Below w.heap.size w w':=by
 have HB:=hid (show Ak ⟨2,D,i,b,h,gs,p,ws,f⟩=(Cf i false&&Cf b false&&Cf h true&&Cf p false&&Cf f false&&rowB gs false&&rowB ws false) by
  simp [Ak,Dl,Co,Cq,has,d0,show D<4 by omega];try omega)
 have H1:=hid h1
 have H2:=hid h2
 clear h1 h2
 by_cases dz:D=0
 ·subst dz
  go_enter func8,ntmps8
  go_wp2_with (first|(go_at_call 24;(with_reducible refine (Hg _ _ _).mono ?_);rintro e w' ⟨rfl,rfl⟩)|(go_at_call 25;(with_reducible refine (Eb _ _ _ _ _ (H1.out.alloc _)).mono ?_);rintro e w' ⟨rfl,rfl⟩)|(go_at_call 25;(with_reducible refine (Eb _ _ _ _ _ (H2.out.alloc _)).mono ?_);rintro e w' ⟨rfl,rfl⟩))
  all_goals
   go_ret
   exact ⟨Ag (by rw [HB.out];simp [*]),b_a _⟩
 ·have hd:(D != 0)=true:=by simpa using dz
  clear dz
  go_enter func8,ntmps8
  go_wp2_with (first|(go_at_call 24;(with_reducible refine (Hg _ _ _).mono ?_);rintro e w' ⟨rfl,rfl⟩)|(go_at_call 25;(with_reducible refine (Eb _ _ _ _ _ (H1.out.alloc _)).mono ?_);rintro e w' ⟨rfl,rfl⟩)|(go_at_call 25;(with_reducible refine (Eb _ _ _ _ _ (H2.out.alloc _)).mono ?_);rintro e w' ⟨rfl,rfl⟩))
  all_goals
   go_ret
   exact ⟨Ag (by rw [HB.out];simp [*]),b_a _⟩
theorem Db0 (D i b h p f:Int) (gs ws:List Int) (ga wa:Option Addr) (gc wc:Nat) (w:World) (h1:Ae w ga gs) (h2:Ae w wa ws) :
 Calls prog 8 #[.agg #[.int .i64 2,.int .i64 D,.int .i64 i,.int .i64 b,.int .i64 h,.slice ga gs.length gc,.int .i64 p,.slice wa ws.length wc,.int .i64 f]] w fun e w'=>e=.returned (.bool (Ak ⟨2,D,i,b,h,gs,p,ws,f⟩))∧Below w.heap.size w w':=by
 by_cases d0:0≤D
 case neg =>
  have HF:=hid (show Ak ⟨2,D,i,b,h,gs,p,ws,f⟩=false by simp [Ak,Dl,Cq,d0])
  clear h1 h2
  go_enter func8,ntmps8
  go_wp2_with fail
  go_ret
  exact ⟨Ag HF.out.symm,b_a _⟩
 by_cases d3:D≤3
 case neg =>
  have HF:=hid (show Ak ⟨2,D,i,b,h,gs,p,ws,f⟩=false by simp [Ak,Dl,Cq,show ¬D<4 by omega])
  clear h1 h2
  go_enter func8,ntmps8
  go_wp2_with fail
  go_ret
  exact ⟨Ag HF.out.symm,b_a _⟩
 exact Bq3 D i b h p f gs ws ga wa gc wc w d0 d3 h1 h2
theorem Ax6 (D i b h p f:Int) (gs ws:List Int) (ga wa:Option Addr) (gc wc:Nat) (w:World) (d0:0≤D) (d3:D≤3) (dz:D=0) (h1:Ae w ga gs) (h2:Ae w wa ws) :
 Calls prog 8 #[.agg #[.int .i64 3,.int .i64 D,.int .i64 i,.int .i64 b,.int .i64 h,.slice ga gs.length gc,.int .i64 p,.slice wa ws.length wc,.int .i64 f]] w fun e w'=>e=.returned (.bool (Ak ⟨3,D,i,b,h,gs,p,ws,f⟩))∧Below w.heap.size w w':=by
 have HB:=hid (show Ak ⟨3,D,i,b,h,gs,p,ws,f⟩=(Cf i true&&Cf b false&&Cf h false&&Cf p false&&Cf f false&&rowB gs false&&rowB ws false) by
  simp [Ak,Dl,Co,Cq,has,dz];try omega)
 have H1:=hid h1
 have H2:=hid h2
 clear h1 h2
 subst dz
 go_enter func8,ntmps8
 go_wp2_with (first|(go_at_call 24;(with_reducible refine (Hg _ _ _).mono ?_);rintro e w' ⟨rfl,rfl⟩)|(go_at_call 25;(with_reducible refine (Eb _ _ _ _ _ (H1.out.alloc _)).mono ?_);rintro e w' ⟨rfl,rfl⟩)|(go_at_call 25;(with_reducible refine (Eb _ _ _ _ _ (H2.out.alloc _)).mono ?_);rintro e w' ⟨rfl,rfl⟩))
 all_goals
  go_ret
  exact ⟨Ag (by rw [HB.out];simp [*]),b_a _⟩
theorem Da9 (D i b h p f:Int) (gs ws:List Int) (ga wa:Option Addr) (gc wc:Nat) (w:World) (h1:Ae w ga gs) (h2:Ae w wa ws) :
 Calls prog 8 #[.agg #[.int .i64 3,.int .i64 D,.int .i64 i,.int .i64 b,.int .i64 h,.slice ga gs.length gc,.int .i64 p,.slice wa ws.length wc,.int .i64 f]] w fun e w'=>e=.returned (.bool (Ak ⟨3,D,i,b,h,gs,p,ws,f⟩))∧Below w.heap.size w w':=by
 by_cases d0:0≤D
 case neg =>
  have HF:=hid (show Ak ⟨3,D,i,b,h,gs,p,ws,f⟩=false by simp [Ak,Dl,Cq,d0])
  clear h1 h2
  go_enter func8,ntmps8
  go_wp2_with fail
  go_ret
  exact ⟨Ag HF.out.symm,b_a _⟩
 by_cases d3:D≤3
 case neg =>
  have HF:=hid (show Ak ⟨3,D,i,b,h,gs,p,ws,f⟩=false by simp [Ak,Dl,Cq,show ¬D<4 by omega])
  clear h1 h2
  go_enter func8,ntmps8
  go_wp2_with fail
  go_ret
  exact ⟨Ag HF.out.symm,b_a _⟩
 by_cases dz:D=0
 case neg =>
  have HF:=hid (show Ak ⟨3,D,i,b,h,gs,p,ws,f⟩=false by simp [Ak,Dl,dz])
  have hd:(D != 0)=true:=by simpa using dz
  clear h1 h2 dz
  go_enter func8,ntmps8
  go_wp2_with fail
  go_ret
  exact ⟨Ag HF.out.symm,b_a _⟩
 exact Ax6 D i b h p f gs ws ga wa gc wc w d0 d3 dz h1 h2
theorem Bq2 (D i b h p f:Int) (gs ws:List Int) (ga wa:Option Addr) (gc wc:Nat) (w:World) (d0:0≤D) (d3:D≤3) (dz:D=0) (h1:Ae w ga gs) (h2:Ae w wa ws) :
 Calls prog 8 #[.agg #[.int .i64 4,.int .i64 D,.int .i64 i,.int .i64 b,.int .i64 h,.slice ga gs.length gc,.int .i64 p,.slice wa ws.length wc,.int .i64 f]] w fun e w'=>e=.returned (.bool (Ak ⟨4,D,i,b,h,gs,p,ws,f⟩))∧Below w.heap.size w w':=by
 have HB:=hid (show Ak ⟨4,D,i,b,h,gs,p,ws,f⟩=(Cf i true&&Cf b false&&Cf h false&&Cf p false&&Cf f false&&rowB gs false&&rowB ws false) by
  simp [Ak,Dl,Co,Cq,has,dz];try omega)
 have H1:=hid h1
 have H2:=hid h2
 clear h1 h2
 subst dz
 go_enter func8,ntmps8
 go_wp2_with (first|(go_at_call 24;(with_reducible refine (Hg _ _ _).mono ?_);rintro e w' ⟨rfl,rfl⟩)|(go_at_call 25;(with_reducible refine (Eb _ _ _ _ _ (H1.out.alloc _)).mono ?_);rintro e w' ⟨rfl,rfl⟩)|(go_at_call 25;(with_reducible refine (Eb _ _ _ _ _ (H2.out.alloc _)).mono ?_);rintro e w' ⟨rfl,rfl⟩))
 all_goals
  go_ret
  exact ⟨Ag (by rw [HB.out];simp [*]),b_a _⟩
theorem Da8 (D i b h p f:Int) (gs ws:List Int) (ga wa:Option Addr) (gc wc:Nat) (w:World) (h1:Ae w ga gs) (h2:Ae w wa ws) :
 Calls prog 8 #[.agg #[.int .i64 4,.int .i64 D,.int .i64 i,.int .i64 b,.int .i64 h,.slice ga gs.length gc,.int .i64 p,.slice wa ws.length wc,.int .i64 f]] w fun e w'=>e=.returned (.bool (Ak ⟨4,D,i,b,h,gs,p,ws,f⟩))∧Below w.heap.size w w':=by
 by_cases d0:0≤D
 case neg =>
  have HF:=hid (show Ak ⟨4,D,i,b,h,gs,p,ws,f⟩=false by simp [Ak,Dl,Cq,d0])
  clear h1 h2
  go_enter func8,ntmps8
  go_wp2_with fail
  go_ret
  exact ⟨Ag HF.out.symm,b_a _⟩
 by_cases d3:D≤3
 case neg =>
  have HF:=hid (show Ak ⟨4,D,i,b,h,gs,p,ws,f⟩=false by simp [Ak,Dl,Cq,show ¬D<4 by omega])
  clear h1 h2
  go_enter func8,ntmps8
  go_wp2_with fail
  go_ret
  exact ⟨Ag HF.out.symm,b_a _⟩
 by_cases dz:D=0
 case neg =>
  have HF:=hid (show Ak ⟨4,D,i,b,h,gs,p,ws,f⟩=false by simp [Ak,Dl,dz])
  have hd:(D != 0)=true:=by simpa using dz
  clear h1 h2 dz
  go_enter func8,ntmps8
  go_wp2_with fail
  go_ret
  exact ⟨Ag HF.out.symm,b_a _⟩
 exact Bq2 D i b h p f gs ws ga wa gc wc w d0 d3 dz h1 h2
theorem Bq1 (D i b h p f:Int) (gs ws:List Int) (ga wa:Option Addr) (gc wc:Nat) (w:World) (d0:0≤D) (d3:D≤3) (dz:D=0) (h1:Ae w ga gs) (h2:Ae w wa ws) :
 Calls prog 8 #[.agg #[.int .i64 5,.int .i64 D,.int .i64 i,.int .i64 b,.int .i64 h,.slice ga gs.length gc,.int .i64 p,.slice wa ws.length wc,.int .i64 f]] w fun e w'=>e=.returned (.bool (Ak ⟨5,D,i,b,h,gs,p,ws,f⟩))∧Below w.heap.size w w':=by
 have HB:=hid (show Ak ⟨5,D,i,b,h,gs,p,ws,f⟩=(Cf i true&&Cf b true&&Cf h false&&Cf p false&&Cf f false&&rowB gs false&&rowB ws false) by
  simp [Ak,Dl,Co,Cq,has,dz];try omega)
 have H1:=hid h1
 have H2:=hid h2
 clear h1 h2
 subst dz
 go_enter func8,ntmps8
 go_wp2_with (first|(go_at_call 24;(with_reducible refine (Hg _ _ _).mono ?_);rintro e w' ⟨rfl,rfl⟩)|(go_at_call 25;(with_reducible refine (Eb _ _ _ _ _ (H1.out.alloc _)).mono ?_);rintro e w' ⟨rfl,rfl⟩)|(go_at_call 25;(with_reducible refine (Eb _ _ _ _ _ (H2.out.alloc _)).mono ?_);rintro e w' ⟨rfl,rfl⟩))
 all_goals
  go_ret
  exact ⟨Ag (by rw [HB.out];simp [*]),b_a _⟩
theorem Da7 (D i b h p f:Int) (gs ws:List Int) (ga wa:Option Addr) (gc wc:Nat) (w:World) (h1:Ae w ga gs) (h2:Ae w wa ws) :
 Calls prog 8 #[.agg #[.int .i64 5,.int .i64 D,.int .i64 i,.int .i64 b,.int .i64 h,.slice ga gs.length gc,.int .i64 p,.slice wa ws.length wc,.int .i64 f]] w fun e w'=>e=.returned (.bool (Ak ⟨5,D,i,b,h,gs,p,ws,f⟩))∧Below w.heap.size w w':=by
 by_cases d0:0≤D
 case neg =>
  have HF:=hid (show Ak ⟨5,D,i,b,h,gs,p,ws,f⟩=false by simp [Ak,Dl,Cq,d0])
  clear h1 h2
  go_enter func8,ntmps8
  go_wp2_with fail
  go_ret
  exact ⟨Ag HF.out.symm,b_a _⟩
 by_cases d3:D≤3
 case neg =>
  have HF:=hid (show Ak ⟨5,D,i,b,h,gs,p,ws,f⟩=false by simp [Ak,Dl,Cq,show ¬D<4 by omega])
  clear h1 h2
  go_enter func8,ntmps8
  go_wp2_with fail
  go_ret
  exact ⟨Ag HF.out.symm,b_a _⟩
 by_cases dz:D=0
 case neg =>
  have HF:=hid (show Ak ⟨5,D,i,b,h,gs,p,ws,f⟩=false by simp [Ak,Dl,dz])
  have hd:(D != 0)=true:=by simpa using dz
  clear h1 h2 dz
  go_enter func8,ntmps8
  go_wp2_with fail
  go_ret
  exact ⟨Ag HF.out.symm,b_a _⟩
 exact Bq1 D i b h p f gs ws ga wa gc wc w d0 d3 dz h1 h2
end
section
theorem Bq0 (D i b h p f:Int) (gs ws:List Int) (ga wa:Option Addr) (gc wc:Nat) (w:World) (d0:0≤D) (d3:D≤3) (dz:D=0) (h1:Ae w ga gs) (h2:Ae w wa ws) :
 Calls prog 8 #[.agg #[.int .i64 6,.int .i64 D,.int .i64 i,.int .i64 b,.int .i64 h,.slice ga gs.length gc,.int .i64 p,.slice wa ws.length wc,.int .i64 f]] w fun e w'=>e=.returned (.bool (Ak ⟨6,D,i,b,h,gs,p,ws,f⟩))∧Below w.heap.size w w':=by
 have HB:=hid (show Ak ⟨6,D,i,b,h,gs,p,ws,f⟩=(Cf i true&&Cf b true&&Cf h false&&Cf p false&&Cf f false&&rowB gs false&&rowB ws false) by
  simp [Ak,Dl,Co,Cq,has,dz];try omega)
 have H1:=hid h1
 have H2:=hid h2
 clear h1 h2
 subst dz
 have hCC:=@cC.eq_1
 go_enter func8,ntmps8
 go_wp2_with (first|(go_at_call 24;(with_reducible refine (Hg _ _ _).mono ?_);rintro e w' ⟨rfl,rfl⟩)|(go_at_call 25;(with_reducible refine (Eb _ _ _ _ _ (H1.out.alloc _)).mono ?_);rintro e w' ⟨rfl,rfl⟩)|(go_at_call 25;(with_reducible refine (Eb _ _ _ _ _ (H2.out.alloc _)).mono ?_);rintro e w' ⟨rfl,rfl⟩))
 all_goals
  go_ret
  exact ⟨Ag (by rw [HB.out];simp [*]),b_a _⟩
theorem Da6 (D i b h p f:Int) (gs ws:List Int) (ga wa:Option Addr) (gc wc:Nat) (w:World) (h1:Ae w ga gs) (h2:Ae w wa ws) :
 Calls prog 8 #[.agg #[.int .i64 6,.int .i64 D,.int .i64 i,.int .i64 b,.int .i64 h,.slice ga gs.length gc,.int .i64 p,.slice wa ws.length wc,.int .i64 f]] w fun e w'=>e=.returned (.bool (Ak ⟨6,D,i,b,h,gs,p,ws,f⟩))∧Below w.heap.size w w':=by
 by_cases d0:0≤D
 case neg =>
  have HF:=hid (show Ak ⟨6,D,i,b,h,gs,p,ws,f⟩=false by simp [Ak,Dl,Cq,d0])
  clear h1 h2
  have hCC:=@cC.eq_1
  go_enter func8,ntmps8
  go_wp2_with fail
  go_ret
  exact ⟨Ag HF.out.symm,b_a _⟩
 by_cases d3:D≤3
 case neg =>
  have HF:=hid (show Ak ⟨6,D,i,b,h,gs,p,ws,f⟩=false by simp [Ak,Dl,Cq,show ¬D<4 by omega])
  clear h1 h2
  have hCC:=@cC.eq_1
  go_enter func8,ntmps8
  go_wp2_with fail
  go_ret
  exact ⟨Ag HF.out.symm,b_a _⟩
 by_cases dz:D=0
 case neg =>
  have HF:=hid (show Ak ⟨6,D,i,b,h,gs,p,ws,f⟩=false by simp [Ak,Dl,dz])
  have hd:(D != 0)=true:=by simpa using dz
  clear h1 h2 dz
  have hCC:=@cC.eq_1
  go_enter func8,ntmps8
  go_wp2_with fail
  go_ret
  exact ⟨Ag HF.out.symm,b_a _⟩
 exact Bq0 D i b h p f gs ws ga wa gc wc w d0 d3 dz h1 h2
theorem Bp9 (D i b h p f:Int) (gs ws:List Int) (ga wa:Option Addr) (gc wc:Nat) (w:World) (d0:0≤D) (d3:D≤3) (dz:D=0) (h1:Ae w ga gs) (h2:Ae w wa ws) :
 Calls prog 8 #[.agg #[.int .i64 7,.int .i64 D,.int .i64 i,.int .i64 b,.int .i64 h,.slice ga gs.length gc,.int .i64 p,.slice wa ws.length wc,.int .i64 f]] w fun e w'=>e=.returned (.bool (Ak ⟨7,D,i,b,h,gs,p,ws,f⟩))∧Below w.heap.size w w':=by
 have HB:=hid (show Ak ⟨7,D,i,b,h,gs,p,ws,f⟩=(Cf i true&&Cf b false&&Cf h true&&Cf p false&&Cf f false&&rowB gs false&&rowB ws false) by
  simp [Ak,Dl,Co,Cq,has,dz];try omega)
 have H1:=hid h1
 have H2:=hid h2
 clear h1 h2
 subst dz
 have hCC:=@cC.eq_1
 go_enter func8,ntmps8
 go_wp2_with (first|(go_at_call 24;(with_reducible refine (Hg _ _ _).mono ?_);rintro e w' ⟨rfl,rfl⟩)|(go_at_call 25;(with_reducible refine (Eb _ _ _ _ _ (H1.out.alloc _)).mono ?_);rintro e w' ⟨rfl,rfl⟩)|(go_at_call 25;(with_reducible refine (Eb _ _ _ _ _ (H2.out.alloc _)).mono ?_);rintro e w' ⟨rfl,rfl⟩))
 all_goals
  go_ret
  exact ⟨Ag (by rw [HB.out];simp [*]),b_a _⟩
theorem Da5 (D i b h p f:Int) (gs ws:List Int) (ga wa:Option Addr) (gc wc:Nat) (w:World) (h1:Ae w ga gs) (h2:Ae w wa ws) :
 Calls prog 8 #[.agg #[.int .i64 7,.int .i64 D,.int .i64 i,.int .i64 b,.int .i64 h,.slice ga gs.length gc,.int .i64 p,.slice wa ws.length wc,.int .i64 f]] w fun e w'=>e=.returned (.bool (Ak ⟨7,D,i,b,h,gs,p,ws,f⟩))∧Below w.heap.size w w':=by
 by_cases d0:0≤D
 case neg =>
  have HF:=hid (show Ak ⟨7,D,i,b,h,gs,p,ws,f⟩=false by simp [Ak,Dl,Cq,d0])
  clear h1 h2
  have hCC:=@cC.eq_1
  go_enter func8,ntmps8
  go_wp2_with fail
  go_ret
  exact ⟨Ag HF.out.symm,b_a _⟩
 by_cases d3:D≤3
 case neg =>
  have HF:=hid (show Ak ⟨7,D,i,b,h,gs,p,ws,f⟩=false by simp [Ak,Dl,Cq,show ¬D<4 by omega])
  clear h1 h2
  have hCC:=@cC.eq_1
  go_enter func8,ntmps8
  go_wp2_with fail
  go_ret
  exact ⟨Ag HF.out.symm,b_a _⟩
 by_cases dz:D=0
 case neg =>
  have HF:=hid (show Ak ⟨7,D,i,b,h,gs,p,ws,f⟩=false by simp [Ak,Dl,dz])
  have hd:(D != 0)=true:=by simpa using dz
  clear h1 h2 dz
  have hCC:=@cC.eq_1
  go_enter func8,ntmps8
  go_wp2_with fail
  go_ret
  exact ⟨Ag HF.out.symm,b_a _⟩
 exact Bp9 D i b h p f gs ws ga wa gc wc w d0 d3 dz h1 h2
theorem Bp8 (D i b h p f:Int) (gs ws:List Int) (ga wa:Option Addr) (gc wc:Nat) (w:World) (d0:0≤D) (d3:D≤3) (dz:D=0) (h1:Ae w ga gs) (h2:Ae w wa ws) :
 Calls prog 8 #[.agg #[.int .i64 8,.int .i64 D,.int .i64 i,.int .i64 b,.int .i64 h,.slice ga gs.length gc,.int .i64 p,.slice wa ws.length wc,.int .i64 f]] w fun e w'=>e=.returned (.bool (Ak ⟨8,D,i,b,h,gs,p,ws,f⟩))∧Below w.heap.size w w':=by
 have HB:=hid (show Ak ⟨8,D,i,b,h,gs,p,ws,f⟩=(Cf i false&&Cf b false&&Cf h true&&Cf p true&&Cf f true&&rowB gs true&&rowB ws true) by
  simp [Ak,Dl,Co,Cq,has,dz];try omega)
 have H1:=hid h1
 have H2:=hid h2
 clear h1 h2
 subst dz
 have hCC:=@cC.eq_1
 go_enter func8,ntmps8
 go_wp2_with (first|(go_at_call 24;(with_reducible refine (Hg _ _ _).mono ?_);rintro e w' ⟨rfl,rfl⟩)|(go_at_call 25;(with_reducible refine (Eb _ _ _ _ _ (H1.out.alloc _)).mono ?_);rintro e w' ⟨rfl,rfl⟩)|(go_at_call 25;(with_reducible refine (Eb _ _ _ _ _ (H2.out.alloc _)).mono ?_);rintro e w' ⟨rfl,rfl⟩))
 all_goals
  go_ret
  exact ⟨Ag (by rw [HB.out];simp [*]),b_a _⟩
theorem Da4 (D i b h p f:Int) (gs ws:List Int) (ga wa:Option Addr) (gc wc:Nat) (w:World) (h1:Ae w ga gs) (h2:Ae w wa ws) :
 Calls prog 8 #[.agg #[.int .i64 8,.int .i64 D,.int .i64 i,.int .i64 b,.int .i64 h,.slice ga gs.length gc,.int .i64 p,.slice wa ws.length wc,.int .i64 f]] w fun e w'=>e=.returned (.bool (Ak ⟨8,D,i,b,h,gs,p,ws,f⟩))∧Below w.heap.size w w':=by
 by_cases d0:0≤D
 case neg =>
  have HF:=hid (show Ak ⟨8,D,i,b,h,gs,p,ws,f⟩=false by simp [Ak,Dl,Cq,d0])
  clear h1 h2
  have hCC:=@cC.eq_1
  go_enter func8,ntmps8
  go_wp2_with fail
  go_ret
  exact ⟨Ag HF.out.symm,b_a _⟩
 by_cases d3:D≤3
 case neg =>
  have HF:=hid (show Ak ⟨8,D,i,b,h,gs,p,ws,f⟩=false by simp [Ak,Dl,Cq,show ¬D<4 by omega])
  clear h1 h2
  have hCC:=@cC.eq_1
  go_enter func8,ntmps8
  go_wp2_with fail
  go_ret
  exact ⟨Ag HF.out.symm,b_a _⟩
 by_cases dz:D=0
 case neg =>
  have HF:=hid (show Ak ⟨8,D,i,b,h,gs,p,ws,f⟩=false by simp [Ak,Dl,dz])
  have hd:(D != 0)=true:=by simpa using dz
  clear h1 h2 dz
  have hCC:=@cC.eq_1
  go_enter func8,ntmps8
  go_wp2_with fail
  go_ret
  exact ⟨Ag HF.out.symm,b_a _⟩
 exact Bp8 D i b h p f gs ws ga wa gc wc w d0 d3 dz h1 h2
theorem Bp7 (D i b h p f:Int) (gs ws:List Int) (ga wa:Option Addr) (gc wc:Nat) (w:World) (d0:0≤D) (d3:D≤3) (dz:D=0) (h1:Ae w ga gs) (h2:Ae w wa ws) :
 Calls prog 8 #[.agg #[.int .i64 9,.int .i64 D,.int .i64 i,.int .i64 b,.int .i64 h,.slice ga gs.length gc,.int .i64 p,.slice wa ws.length wc,.int .i64 f]] w fun e w'=>e=.returned (.bool (Ak ⟨9,D,i,b,h,gs,p,ws,f⟩))∧Below w.heap.size w w':=by
 have HB:=hid (show Ak ⟨9,D,i,b,h,gs,p,ws,f⟩=(Cf i false&&Cf b false&&Cf h false&&Cf p false&&Cf f false&&rowB gs false&&rowB ws false) by
  simp [Ak,Dl,Co,Cq,has,dz];try omega)
 have H1:=hid h1
 have H2:=hid h2
 clear h1 h2
 subst dz
 have hCC:=@cC.eq_1
 go_enter func8,ntmps8
 go_wp2_with (first|(go_at_call 24;(with_reducible refine (Hg _ _ _).mono ?_);rintro e w' ⟨rfl,rfl⟩)|(go_at_call 25;(with_reducible refine (Eb _ _ _ _ _ (H1.out.alloc _)).mono ?_);rintro e w' ⟨rfl,rfl⟩)|(go_at_call 25;(with_reducible refine (Eb _ _ _ _ _ (H2.out.alloc _)).mono ?_);rintro e w' ⟨rfl,rfl⟩))
 all_goals
  go_ret
  exact ⟨Ag (by rw [HB.out];simp [*]),b_a _⟩
theorem Da3 (D i b h p f:Int) (gs ws:List Int) (ga wa:Option Addr) (gc wc:Nat) (w:World) (h1:Ae w ga gs) (h2:Ae w wa ws) :
 Calls prog 8 #[.agg #[.int .i64 9,.int .i64 D,.int .i64 i,.int .i64 b,.int .i64 h,.slice ga gs.length gc,.int .i64 p,.slice wa ws.length wc,.int .i64 f]] w fun e w'=>e=.returned (.bool (Ak ⟨9,D,i,b,h,gs,p,ws,f⟩))∧Below w.heap.size w w':=by
 by_cases d0:0≤D
 case neg =>
  have HF:=hid (show Ak ⟨9,D,i,b,h,gs,p,ws,f⟩=false by simp [Ak,Dl,Cq,d0])
  clear h1 h2
  have hCC:=@cC.eq_1
  go_enter func8,ntmps8
  go_wp2_with fail
  go_ret
  exact ⟨Ag HF.out.symm,b_a _⟩
 by_cases d3:D≤3
 case neg =>
  have HF:=hid (show Ak ⟨9,D,i,b,h,gs,p,ws,f⟩=false by simp [Ak,Dl,Cq,show ¬D<4 by omega])
  clear h1 h2
  have hCC:=@cC.eq_1
  go_enter func8,ntmps8
  go_wp2_with fail
  go_ret
  exact ⟨Ag HF.out.symm,b_a _⟩
 by_cases dz:D=0
 case neg =>
  have HF:=hid (show Ak ⟨9,D,i,b,h,gs,p,ws,f⟩=false by simp [Ak,Dl,dz])
  have hd:(D != 0)=true:=by simpa using dz
  clear h1 h2 dz
  have hCC:=@cC.eq_1
  go_enter func8,ntmps8
  go_wp2_with fail
  go_ret
  exact ⟨Ag HF.out.symm,b_a _⟩
 exact Bp7 D i b h p f gs ws ga wa gc wc w d0 d3 dz h1 h2
theorem Bf9 (D i b h p f:Int) (gs ws:List Int) (ga wa:Option Addr) (gc wc:Nat) (w:World) (d0:0≤D) (d3:D≤3) (dz:D=0) (h1:Ae w ga gs) (h2:Ae w wa ws) :
 Calls prog 8 #[.agg #[.int .i64 10,.int .i64 D,.int .i64 i,.int .i64 b,.int .i64 h,.slice ga gs.length gc,.int .i64 p,.slice wa ws.length wc,.int .i64 f]] w fun e w'=>e=.returned (.bool (Ak ⟨10,D,i,b,h,gs,p,ws,f⟩))∧Below w.heap.size w w':=by
 have HB:=hid (show Ak ⟨10,D,i,b,h,gs,p,ws,f⟩=(Cf i false&&Cf b false&&Cf h false&&Cf p false&&Cf f false&&rowB gs false&&rowB ws false) by
  simp [Ak,Dl,Co,Cq,has,dz];try omega)
 have H1:=hid h1
 have H2:=hid h2
 clear h1 h2
 subst dz
 have hCC:=@cC.eq_1
 go_enter func8,ntmps8
 go_wp2_with (first|(go_at_call 24;(with_reducible refine (Hg _ _ _).mono ?_);rintro e w' ⟨rfl,rfl⟩)|(go_at_call 25;(with_reducible refine (Eb _ _ _ _ _ (H1.out.alloc _)).mono ?_);rintro e w' ⟨rfl,rfl⟩)|(go_at_call 25;(with_reducible refine (Eb _ _ _ _ _ (H2.out.alloc _)).mono ?_);rintro e w' ⟨rfl,rfl⟩))
 all_goals
  go_ret
  exact ⟨Ag (by rw [HB.out];simp [*]),b_a _⟩
theorem Cg2 (D i b h p f:Int) (gs ws:List Int) (ga wa:Option Addr) (gc wc:Nat) (w:World) (h1:Ae w ga gs) (h2:Ae w wa ws) :
 Calls prog 8 #[.agg #[.int .i64 10,.int .i64 D,.int .i64 i,.int .i64 b,.int .i64 h,.slice ga gs.length gc,.int .i64 p,.slice wa ws.length wc,.int .i64 f]] w fun e w'=>e=.returned (.bool (Ak ⟨10,D,i,b,h,gs,p,ws,f⟩))∧Below w.heap.size w w':=by
 by_cases d0:0≤D
 case neg =>
  have HF:=hid (show Ak ⟨10,D,i,b,h,gs,p,ws,f⟩=false by simp [Ak,Dl,Cq,d0])
  clear h1 h2
  have hCC:=@cC.eq_1
  go_enter func8,ntmps8
  go_wp2_with fail
  go_ret
  exact ⟨Ag HF.out.symm,b_a _⟩
 by_cases d3:D≤3
 case neg =>
  have HF:=hid (show Ak ⟨10,D,i,b,h,gs,p,ws,f⟩=false by simp [Ak,Dl,Cq,show ¬D<4 by omega])
  clear h1 h2
  have hCC:=@cC.eq_1
  go_enter func8,ntmps8
  go_wp2_with fail
  go_ret
  exact ⟨Ag HF.out.symm,b_a _⟩
 by_cases dz:D=0
 case neg =>
  have HF:=hid (show Ak ⟨10,D,i,b,h,gs,p,ws,f⟩=false by simp [Ak,Dl,dz])
  have hd:(D != 0)=true:=by simpa using dz
  clear h1 h2 dz
  have hCC:=@cC.eq_1
  go_enter func8,ntmps8
  go_wp2_with fail
  go_ret
  exact ⟨Ag HF.out.symm,b_a _⟩
 exact Bf9 D i b h p f gs ws ga wa gc wc w d0 d3 dz h1 h2
theorem Bw (c:Cm) (ga wa:Option Addr) (gc wc:Nat) (w:World) (h1:Ae w ga c.gives) (h2:Ae w wa c.wants) :
 Calls prog 8 #[.agg (cC c ga gc wa wc)] w fun e w'=>e=.returned (.bool (Ak c))∧Below w.heap.size w w':=by
 cases hk:Co c.kind
 ·have HF:=hid (show Ak c=false by simp [Ak,Dl,hk])
  simp only [Co,Bool.and_eq_false_iff,decide_eq_false_iff_not] at hk
  clear h1 h2
  rcases hk with hk|hk
  all_goals
   have hCC:=@cC.eq_1
   go_enter func8,ntmps8
   go_wp2_with fail
   all_goals
    go_ret
    exact ⟨Ag HF.out.symm,b_a _⟩
 ·obtain ⟨k,d,i,b,h,gs,p,ws,f⟩:=c
  simp only at hk h1 h2 ⊢
  rcases Pj hk with rfl|rfl|rfl|rfl|rfl|rfl|rfl|rfl|rfl|rfl
  ·exact Db1 d i b h p f gs ws ga wa gc wc w h1 h2
  ·exact Db0 d i b h p f gs ws ga wa gc wc w h1 h2
  ·exact Da9 d i b h p f gs ws ga wa gc wc w h1 h2
  ·exact Da8 d i b h p f gs ws ga wa gc wc w h1 h2
  ·exact Da7 d i b h p f gs ws ga wa gc wc w h1 h2
  ·exact Da6 d i b h p f gs ws ga wa gc wc w h1 h2
  ·exact Da5 d i b h p f gs ws ga wa gc wc w h1 h2
  ·exact Da4 d i b h p f gs ws ga wa gc wc w h1 h2
  ·exact Da3 d i b h p f gs ws ga wa gc wc w h1 h2
  ·exact Cg2 d i b h p f gs ws ga wa gc wc w h1 h2
end
end Go.Proofs.YtnhkojpbbdaedaaGreat
