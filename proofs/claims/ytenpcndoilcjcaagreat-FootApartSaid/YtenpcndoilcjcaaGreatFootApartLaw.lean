/- FootApart: two commands whose footprints have no key in common come to the same in either order. -/
import Derived.Test.YtenpcndoilcjcaaGreatCmdRead
import Derived.Test.YtenpcndoilcjcaaGreatFootAwake
import Derived.Test.YtenpcndoilcjcaaGreatGRepR
import Derived.Test.YtenpcndoilcjcaaGreatAtomAll
namespace Go.Proofs.YtenpcndoilcjcaaGreat
open Go.ChangeShapes Go.WideShapes Go.ChangeAt Go.RowKit Go.Proofs.Tryz
open Lib (hid)
set_option linter.unusedVariables false
set_option maxHeartbeats 8000000
set_option maxRecDepth 100000
open Go.RowKit Go
theorem Gm8 {a b:Rp} (h:a=b) (pa ia pb ib:Option Addr) (pc ic pcb icb:Nat) (w:World) (h1:Ae w pa a.players) (h2:Bd w ia a.items) (h3:Ae w pb b.players) (h4:Bd w ib b.items) :
 Calls prog 16 #[.agg #[.int .i64 a.err,.int .i64 a.kind,.int .i64 a.room,.slice pa a.players.length pc,.slice ia a.items.length ic,.int .i64 a.coins],.agg #[.int .i64 b.err,.int .i64 b.kind,.int .i64 b.room,.slice pb b.players.length pcb,.slice ib b.items.length icb,.int .i64 b.coins]] w fun e w'=>e=.returned (.bool true)∧Below w.heap.size w w':=by
 have:=Cs a b pa ia pb ib pc ic pcb icb w h1 h2 h3 h4
 rwa [show Gl a b=true by rw [h];exact Pg _] at this
theorem of_as {x y:Wd} (hs:Am x y) (p:Wp) (i:Nat) (c:Cm) (ga wa:Option Addr) (gc wc:Nat) (w:World) (hy:Ai y=true) (h:Ab w p y) (hi:i<y.at_.length) (hd:0≤c.dir∧c.dir<4) :
 Calls prog 9 #[.agg (wC x p),.int .i64 (i:Int),.agg (cC c ga gc wa wc)] w fun e w'=>∃(fb:Option Addr) (cp:Nat) (s:List Pl),e=.returned (.slice fb s.length cp)∧Lm (Yb y i c) s∧OwnR 2 47 plC w.heap.size w' fb s∧Below w.heap.size w w':=by
 have:=of_any y p i c ga wa gc wc w hy h hi hd
 rw [hs.val] at this
 exact this
theorem has_b (a:Option Addr) (cap:Nat) (l:List Pl) (z:Pl) (w:World) (h:Au w a l):Calls prog 13 #[.slice a l.length cap,.int .i64 z.kind,.int .i64 z.id] w fun e w'=>e=.returned (.bool (decide (z∈l)))∧Below w.heap.size w w' :=
 (has_any a cap l z w h).mono fun _ _ ⟨h1,h2⟩=>⟨h1,h2 ▸ Below.refl _ _⟩
theorem footApart_no0 (x:Wd) (p:Wp) (a b2:Int) (c d:Cm) (gac wac gad wad:Option Addr) (gcc wcc gcd wcd:Nat) (w:World) (h:Ab w p x) (hgc:Ae w gac c.gives) (hwc:Ae w wac c.wants) (hgd:Ae w gad d.gives) (hwd:Ae w wad d.wants) (hf:Ba x=false):Calls prog 4 #[.agg (wC x p),.int .u8 a,.agg (cC c gac gcc wac wcc),.int .u8 b2,.agg (cC d gad gcd wad wcd)] w fun e w'=>e=.returned (.bool true)∧Below w.heap.size w w':=by
 have HF:=hid hf
 have HWA:=hid h
 clear hf h
 have HGc:=hid hgc
 have HWc:=hid hwc
 clear hgc hwc
 have HGd:=hid hgd
 have HWd:=hid hwd
 clear hgd hwd
 have HP0:=hid (Tri.start 29 31 31 w (wC x p) (cC c gac gcc wac wcc) (cC d gad gcd wad wcd))
 have hWC:=@wC.eq_1
 have hZC:=@zC.eq_1
 have hCC:=@cC.eq_1
 go_enter func4,ntmps4
 go_wp2_with fail
 generalize ((w.alloc (.cells (wC x p) 29)).alloc (.cells (cC c gac gcc wac wcc) 31)).alloc (.cells (cC d gad gcd wad wcd) 31)=V0 at *
 have B_0:=hid HP0.out.b
 have H_0:=hid (show Ac w w.heap.size (wC x p) V0 from ⟨B_0.out,HP0.out.a.lt,HP0.out.a.cell⟩)
 have C_0:=hid (show Ac w (w.heap.size+1) (cC c gac gcc wac wcc) V0 from ⟨B_0.out,HP0.out.m.lt,HP0.out.m.cell⟩)
 have D_0:=hid (show Ac w (w.heap.size+2) (cC d gad gcd wad wcd) V0 from ⟨B_0.out,HP0.out.r.lt,HP0.out.r.cell⟩)
 clear HP0
 refine (awake16_any _).mono ?_
 rintro e u1 ⟨rfl,b1⟩
 have B_1:=hid (bl B_0.out b1)
 have H_1:=hid (H_0.out.call b1)
 have C_1:=hid (C_0.out.call b1)
 have D_1:=hid (D_0.out.call b1)
 clear b1 B_0 H_0 C_0 D_0
 have hcH:=H_1.out.2.2
 have hlH:=H_1.out.2.1
 have hcC:=C_1.out.2.2
 have hlC:=C_1.out.2.1
 have hcD:=D_1.out.2.2
 have hlD:=D_1.out.2.1
 go_wp2_with fail
 refine (fits16_any x p _ (HWA.out.below B_1.out (Nat.le_refl _))).mono ?_
 rintro e u2 ⟨rfl,b2⟩
 rw [HF.out]
 clear hcH hlH hcC hlC hcD hlD
 have B_2:=hid (bl B_1.out b2)
 have H_2:=hid (H_1.out.call b2)
 have C_2:=hid (C_1.out.call b2)
 have D_2:=hid (D_1.out.call b2)
 clear b2 B_1 H_1 C_1 D_1
 have hcH:=H_2.out.2.2
 have hlH:=H_2.out.2.1
 have hcC:=C_2.out.2.2
 have hlC:=C_2.out.2.1
 have hcD:=D_2.out.2.2
 have hlD:=D_2.out.2.1
 go_wp2_with fail
 refine (awake16_any _).mono ?_
 rintro e u3 ⟨rfl,b3⟩
 clear hcH hlH hcC hlC hcD hlD
 have B_3:=hid (bl B_2.out b3)
 have H_3:=hid (H_2.out.call b3)
 have C_3:=hid (C_2.out.call b3)
 have D_3:=hid (D_2.out.call b3)
 clear b3 B_2 H_2 C_2 D_2
 have hcH:=H_3.out.2.2
 have hlH:=H_3.out.2.1
 have hcC:=C_3.out.2.2
 have hlC:=C_3.out.2.1
 have hcD:=D_3.out.2.2
 have hlD:=D_3.out.2.1
 go_wp2_with fail
 go_ret
 exact ⟨rfl,B_3.out⟩
theorem footApart_no1 (x:Wd) (p:Wp) (a b2:Int) (c d:Cm) (gac wac gad wad:Option Addr) (gcc wcc gcd wcd:Nat) (w:World) (h:Ab w p x) (hgc:Ae w gac c.gives) (hwc:Ae w wac c.wants) (hgd:Ae w gad d.gives) (hwd:Ae w wad d.wants) (hf:Ba x=true) (hfwc:Dz c=false):Calls prog 4 #[.agg (wC x p),.int .u8 a,.agg (cC c gac gcc wac wcc),.int .u8 b2,.agg (cC d gad gcd wad wcd)] w fun e w'=>e=.returned (.bool true)∧Below w.heap.size w w':=by
 have HFWc:=hid hfwc
 clear hfwc
 have HF:=hid hf
 have HWA:=hid h
 clear hf h
 have HGc:=hid hgc
 have HWc:=hid hwc
 clear hgc hwc
 have HGd:=hid hgd
 have HWd:=hid hwd
 clear hgd hwd
 have HP0:=hid (Tri.start 29 31 31 w (wC x p) (cC c gac gcc wac wcc) (cC d gad gcd wad wcd))
 have hWC:=@wC.eq_1
 have hZC:=@zC.eq_1
 have hCC:=@cC.eq_1
 go_enter func4,ntmps4
 go_wp2_with fail
 generalize ((w.alloc (.cells (wC x p) 29)).alloc (.cells (cC c gac gcc wac wcc) 31)).alloc (.cells (cC d gad gcd wad wcd) 31)=V0 at *
 have B_0:=hid HP0.out.b
 have H_0:=hid (show Ac w w.heap.size (wC x p) V0 from ⟨B_0.out,HP0.out.a.lt,HP0.out.a.cell⟩)
 have C_0:=hid (show Ac w (w.heap.size+1) (cC c gac gcc wac wcc) V0 from ⟨B_0.out,HP0.out.m.lt,HP0.out.m.cell⟩)
 have D_0:=hid (show Ac w (w.heap.size+2) (cC d gad gcd wad wcd) V0 from ⟨B_0.out,HP0.out.r.lt,HP0.out.r.cell⟩)
 clear HP0
 refine (awake16_any _).mono ?_
 rintro e u1 ⟨rfl,b1⟩
 have B_1:=hid (bl B_0.out b1)
 have H_1:=hid (H_0.out.call b1)
 have C_1:=hid (C_0.out.call b1)
 have D_1:=hid (D_0.out.call b1)
 clear b1 B_0 H_0 C_0 D_0
 have hcH:=H_1.out.2.2
 have hlH:=H_1.out.2.1
 have hcC:=C_1.out.2.2
 have hlC:=C_1.out.2.1
 have hcD:=D_1.out.2.2
 have hlD:=D_1.out.2.1
 go_wp2_with fail
 refine (fits16_any x p _ (HWA.out.below B_1.out (Nat.le_refl _))).mono ?_
 rintro e u2 ⟨rfl,b2⟩
 rw [HF.out]
 clear hcH hlH hcC hlC hcD hlD
 have B_2:=hid (bl B_1.out b2)
 have H_2:=hid (H_1.out.call b2)
 have C_2:=hid (C_1.out.call b2)
 have D_2:=hid (D_1.out.call b2)
 clear b2 B_1 H_1 C_1 D_1
 have hcH:=H_2.out.2.2
 have hlH:=H_2.out.2.1
 have hcC:=C_2.out.2.2
 have hlC:=C_2.out.2.1
 have hcD:=D_2.out.2.2
 have hlD:=D_2.out.2.1
 go_wp2_with fail
 refine (Cy c gac wac gcc wcc _ (HGc.out.below B_2.out (Nat.le_refl _)) (HWc.out.below B_2.out (Nat.le_refl _))).mono ?_
 rintro e u3 ⟨rfl,b3⟩
 rw [HFWc.out]
 clear hcH hlH hcC hlC hcD hlD
 have B_3:=hid (bl B_2.out b3)
 have H_3:=hid (H_2.out.call b3)
 have C_3:=hid (C_2.out.call b3)
 have D_3:=hid (D_2.out.call b3)
 clear b3 B_2 H_2 C_2 D_2
 have hcH:=H_3.out.2.2
 have hlH:=H_3.out.2.1
 have hcC:=C_3.out.2.2
 have hlC:=C_3.out.2.1
 have hcD:=D_3.out.2.2
 have hlD:=D_3.out.2.1
 go_wp2_with fail
 refine (awake16_any _).mono ?_
 rintro e u4 ⟨rfl,b4⟩
 clear hcH hlH hcC hlC hcD hlD
 have B_4:=hid (bl B_3.out b4)
 have H_4:=hid (H_3.out.call b4)
 have C_4:=hid (C_3.out.call b4)
 have D_4:=hid (D_3.out.call b4)
 clear b4 B_3 H_3 C_3 D_3
 have hcH:=H_4.out.2.2
 have hlH:=H_4.out.2.1
 have hcC:=C_4.out.2.2
 have hlC:=C_4.out.2.1
 have hcD:=D_4.out.2.2
 have hlD:=D_4.out.2.1
 go_wp2_with fail
 go_ret
 exact ⟨rfl,B_4.out⟩
theorem footApart_no2 (x:Wd) (p:Wp) (a b2:Int) (c d:Cm) (gac wac gad wad:Option Addr) (gcc wcc gcd wcd:Nat) (w:World) (h:Ab w p x) (hgc:Ae w gac c.gives) (hwc:Ae w wac c.wants) (hgd:Ae w gad d.gives) (hwd:Ae w wad d.wants) (hf:Ba x=true) (hfwc:Dz c=true) (hmyc:Ak c=false):Calls prog 4 #[.agg (wC x p),.int .u8 a,.agg (cC c gac gcc wac wcc),.int .u8 b2,.agg (cC d gad gcd wad wcd)] w fun e w'=>e=.returned (.bool true)∧Below w.heap.size w w':=by
 have HFWc:=hid hfwc
 clear hfwc
 have HMYc:=hid hmyc
 clear hmyc
 have HF:=hid hf
 have HWA:=hid h
 clear hf h
 have HGc:=hid hgc
 have HWc:=hid hwc
 clear hgc hwc
 have HGd:=hid hgd
 have HWd:=hid hwd
 clear hgd hwd
 have HP0:=hid (Tri.start 29 31 31 w (wC x p) (cC c gac gcc wac wcc) (cC d gad gcd wad wcd))
 have hWC:=@wC.eq_1
 have hZC:=@zC.eq_1
 have hCC:=@cC.eq_1
 go_enter func4,ntmps4
 go_wp2_with fail
 generalize ((w.alloc (.cells (wC x p) 29)).alloc (.cells (cC c gac gcc wac wcc) 31)).alloc (.cells (cC d gad gcd wad wcd) 31)=V0 at *
 have B_0:=hid HP0.out.b
 have H_0:=hid (show Ac w w.heap.size (wC x p) V0 from ⟨B_0.out,HP0.out.a.lt,HP0.out.a.cell⟩)
 have C_0:=hid (show Ac w (w.heap.size+1) (cC c gac gcc wac wcc) V0 from ⟨B_0.out,HP0.out.m.lt,HP0.out.m.cell⟩)
 have D_0:=hid (show Ac w (w.heap.size+2) (cC d gad gcd wad wcd) V0 from ⟨B_0.out,HP0.out.r.lt,HP0.out.r.cell⟩)
 clear HP0
 refine (awake16_any _).mono ?_
 rintro e u1 ⟨rfl,b1⟩
 have B_1:=hid (bl B_0.out b1)
 have H_1:=hid (H_0.out.call b1)
 have C_1:=hid (C_0.out.call b1)
 have D_1:=hid (D_0.out.call b1)
 clear b1 B_0 H_0 C_0 D_0
 have hcH:=H_1.out.2.2
 have hlH:=H_1.out.2.1
 have hcC:=C_1.out.2.2
 have hlC:=C_1.out.2.1
 have hcD:=D_1.out.2.2
 have hlD:=D_1.out.2.1
 go_wp2_with fail
 refine (fits16_any x p _ (HWA.out.below B_1.out (Nat.le_refl _))).mono ?_
 rintro e u2 ⟨rfl,b2⟩
 rw [HF.out]
 clear hcH hlH hcC hlC hcD hlD
 have B_2:=hid (bl B_1.out b2)
 have H_2:=hid (H_1.out.call b2)
 have C_2:=hid (C_1.out.call b2)
 have D_2:=hid (D_1.out.call b2)
 clear b2 B_1 H_1 C_1 D_1
 have hcH:=H_2.out.2.2
 have hlH:=H_2.out.2.1
 have hcC:=C_2.out.2.2
 have hlC:=C_2.out.2.1
 have hcD:=D_2.out.2.2
 have hlD:=D_2.out.2.1
 go_wp2_with fail
 refine (Cy c gac wac gcc wcc _ (HGc.out.below B_2.out (Nat.le_refl _)) (HWc.out.below B_2.out (Nat.le_refl _))).mono ?_
 rintro e u3 ⟨rfl,b3⟩
 rw [HFWc.out]
 clear hcH hlH hcC hlC hcD hlD
 have B_3:=hid (bl B_2.out b3)
 have H_3:=hid (H_2.out.call b3)
 have C_3:=hid (C_2.out.call b3)
 have D_3:=hid (D_2.out.call b3)
 clear b3 B_2 H_2 C_2 D_2
 have hcH:=H_3.out.2.2
 have hlH:=H_3.out.2.1
 have hcC:=C_3.out.2.2
 have hlC:=C_3.out.2.1
 have hcD:=D_3.out.2.2
 have hlD:=D_3.out.2.1
 go_wp2_with fail
 refine (Bw c gac wac gcc wcc _ (HGc.out.below B_3.out (Nat.le_refl _)) (HWc.out.below B_3.out (Nat.le_refl _))).mono ?_
 rintro e u4 ⟨rfl,b4⟩
 rw [HMYc.out]
 clear hcH hlH hcC hlC hcD hlD
 have B_4:=hid (bl B_3.out b4)
 have H_4:=hid (H_3.out.call b4)
 have C_4:=hid (C_3.out.call b4)
 have D_4:=hid (D_3.out.call b4)
 clear b4 B_3 H_3 C_3 D_3
 have hcH:=H_4.out.2.2
 have hlH:=H_4.out.2.1
 have hcC:=C_4.out.2.2
 have hlC:=C_4.out.2.1
 have hcD:=D_4.out.2.2
 have hlD:=D_4.out.2.1
 go_wp2_with fail
 refine (awake16_any _).mono ?_
 rintro e u5 ⟨rfl,b5⟩
 clear hcH hlH hcC hlC hcD hlD
 have B_5:=hid (bl B_4.out b5)
 have H_5:=hid (H_4.out.call b5)
 have C_5:=hid (C_4.out.call b5)
 have D_5:=hid (D_4.out.call b5)
 clear b5 B_4 H_4 C_4 D_4
 have hcH:=H_5.out.2.2
 have hlH:=H_5.out.2.1
 have hcC:=C_5.out.2.2
 have hlC:=C_5.out.2.1
 have hcD:=D_5.out.2.2
 have hlD:=D_5.out.2.1
 go_wp2_with fail
 go_ret
 exact ⟨rfl,B_5.out⟩
theorem footApart_no3 (x:Wd) (p:Wp) (a b2:Int) (c d:Cm) (gac wac gad wad:Option Addr) (gcc wcc gcd wcd:Nat) (w:World) (h:Ab w p x) (hgc:Ae w gac c.gives) (hwc:Ae w wac c.wants) (hgd:Ae w gad d.gives) (hwd:Ae w wad d.wants) (hf:Ba x=true) (hfwc:Dz c=true) (hmyc:Ak c=true) (hfwd:Dz d=false):Calls prog 4 #[.agg (wC x p),.int .u8 a,.agg (cC c gac gcc wac wcc),.int .u8 b2,.agg (cC d gad gcd wad wcd)] w fun e w'=>e=.returned (.bool true)∧Below w.heap.size w w':=by
 have HFWc:=hid hfwc
 clear hfwc
 have HMYc:=hid hmyc
 clear hmyc
 have HFWd:=hid hfwd
 clear hfwd
 have HF:=hid hf
 have HWA:=hid h
 clear hf h
 have HGc:=hid hgc
 have HWc:=hid hwc
 clear hgc hwc
 have HGd:=hid hgd
 have HWd:=hid hwd
 clear hgd hwd
 have HP0:=hid (Tri.start 29 31 31 w (wC x p) (cC c gac gcc wac wcc) (cC d gad gcd wad wcd))
 have hWC:=@wC.eq_1
 have hZC:=@zC.eq_1
 have hCC:=@cC.eq_1
 go_enter func4,ntmps4
 go_wp2_with fail
 generalize ((w.alloc (.cells (wC x p) 29)).alloc (.cells (cC c gac gcc wac wcc) 31)).alloc (.cells (cC d gad gcd wad wcd) 31)=V0 at *
 have B_0:=hid HP0.out.b
 have H_0:=hid (show Ac w w.heap.size (wC x p) V0 from ⟨B_0.out,HP0.out.a.lt,HP0.out.a.cell⟩)
 have C_0:=hid (show Ac w (w.heap.size+1) (cC c gac gcc wac wcc) V0 from ⟨B_0.out,HP0.out.m.lt,HP0.out.m.cell⟩)
 have D_0:=hid (show Ac w (w.heap.size+2) (cC d gad gcd wad wcd) V0 from ⟨B_0.out,HP0.out.r.lt,HP0.out.r.cell⟩)
 clear HP0
 refine (awake16_any _).mono ?_
 rintro e u1 ⟨rfl,b1⟩
 have B_1:=hid (bl B_0.out b1)
 have H_1:=hid (H_0.out.call b1)
 have C_1:=hid (C_0.out.call b1)
 have D_1:=hid (D_0.out.call b1)
 clear b1 B_0 H_0 C_0 D_0
 have hcH:=H_1.out.2.2
 have hlH:=H_1.out.2.1
 have hcC:=C_1.out.2.2
 have hlC:=C_1.out.2.1
 have hcD:=D_1.out.2.2
 have hlD:=D_1.out.2.1
 go_wp2_with fail
 refine (fits16_any x p _ (HWA.out.below B_1.out (Nat.le_refl _))).mono ?_
 rintro e u2 ⟨rfl,b2⟩
 rw [HF.out]
 clear hcH hlH hcC hlC hcD hlD
 have B_2:=hid (bl B_1.out b2)
 have H_2:=hid (H_1.out.call b2)
 have C_2:=hid (C_1.out.call b2)
 have D_2:=hid (D_1.out.call b2)
 clear b2 B_1 H_1 C_1 D_1
 have hcH:=H_2.out.2.2
 have hlH:=H_2.out.2.1
 have hcC:=C_2.out.2.2
 have hlC:=C_2.out.2.1
 have hcD:=D_2.out.2.2
 have hlD:=D_2.out.2.1
 go_wp2_with fail
 refine (Cy c gac wac gcc wcc _ (HGc.out.below B_2.out (Nat.le_refl _)) (HWc.out.below B_2.out (Nat.le_refl _))).mono ?_
 rintro e u3 ⟨rfl,b3⟩
 rw [HFWc.out]
 clear hcH hlH hcC hlC hcD hlD
 have B_3:=hid (bl B_2.out b3)
 have H_3:=hid (H_2.out.call b3)
 have C_3:=hid (C_2.out.call b3)
 have D_3:=hid (D_2.out.call b3)
 clear b3 B_2 H_2 C_2 D_2
 have hcH:=H_3.out.2.2
 have hlH:=H_3.out.2.1
 have hcC:=C_3.out.2.2
 have hlC:=C_3.out.2.1
 have hcD:=D_3.out.2.2
 have hlD:=D_3.out.2.1
 go_wp2_with fail
 refine (Bw c gac wac gcc wcc _ (HGc.out.below B_3.out (Nat.le_refl _)) (HWc.out.below B_3.out (Nat.le_refl _))).mono ?_
 rintro e u4 ⟨rfl,b4⟩
 rw [HMYc.out]
 clear hcH hlH hcC hlC hcD hlD
 have B_4:=hid (bl B_3.out b4)
 have H_4:=hid (H_3.out.call b4)
 have C_4:=hid (C_3.out.call b4)
 have D_4:=hid (D_3.out.call b4)
 clear b4 B_3 H_3 C_3 D_3
 have hcH:=H_4.out.2.2
 have hlH:=H_4.out.2.1
 have hcC:=C_4.out.2.2
 have hlC:=C_4.out.2.1
 have hcD:=D_4.out.2.2
 have hlD:=D_4.out.2.1
 go_wp2_with fail
 refine (Cy d gad wad gcd wcd _ (HGd.out.below B_4.out (Nat.le_refl _)) (HWd.out.below B_4.out (Nat.le_refl _))).mono ?_
 rintro e u5 ⟨rfl,b5⟩
 rw [HFWd.out]
 clear hcH hlH hcC hlC hcD hlD
 have B_5:=hid (bl B_4.out b5)
 have H_5:=hid (H_4.out.call b5)
 have C_5:=hid (C_4.out.call b5)
 have D_5:=hid (D_4.out.call b5)
 clear b5 B_4 H_4 C_4 D_4
 have hcH:=H_5.out.2.2
 have hlH:=H_5.out.2.1
 have hcC:=C_5.out.2.2
 have hlC:=C_5.out.2.1
 have hcD:=D_5.out.2.2
 have hlD:=D_5.out.2.1
 go_wp2_with fail
 refine (awake16_any _).mono ?_
 rintro e u6 ⟨rfl,b6⟩
 clear hcH hlH hcC hlC hcD hlD
 have B_6:=hid (bl B_5.out b6)
 have H_6:=hid (H_5.out.call b6)
 have C_6:=hid (C_5.out.call b6)
 have D_6:=hid (D_5.out.call b6)
 clear b6 B_5 H_5 C_5 D_5
 have hcH:=H_6.out.2.2
 have hlH:=H_6.out.2.1
 have hcC:=C_6.out.2.2
 have hlC:=C_6.out.2.1
 have hcD:=D_6.out.2.2
 have hlD:=D_6.out.2.1
 go_wp2_with fail
 go_ret
 exact ⟨rfl,B_6.out⟩
theorem footApart_no4 (x:Wd) (p:Wp) (a b2:Int) (c d:Cm) (gac wac gad wad:Option Addr) (gcc wcc gcd wcd:Nat) (w:World) (h:Ab w p x) (hgc:Ae w gac c.gives) (hwc:Ae w wac c.wants) (hgd:Ae w gad d.gives) (hwd:Ae w wad d.wants) (hf:Ba x=true) (hfwc:Dz c=true) (hmyc:Ak c=true) (hfwd:Dz d=true) (hmyd:Ak d=false):Calls prog 4 #[.agg (wC x p),.int .u8 a,.agg (cC c gac gcc wac wcc),.int .u8 b2,.agg (cC d gad gcd wad wcd)] w fun e w'=>e=.returned (.bool true)∧Below w.heap.size w w':=by
 have HFWc:=hid hfwc
 clear hfwc
 have HMYc:=hid hmyc
 clear hmyc
 have HFWd:=hid hfwd
 clear hfwd
 have HMYd:=hid hmyd
 clear hmyd
 have HF:=hid hf
 have HWA:=hid h
 clear hf h
 have HGc:=hid hgc
 have HWc:=hid hwc
 clear hgc hwc
 have HGd:=hid hgd
 have HWd:=hid hwd
 clear hgd hwd
 have HP0:=hid (Tri.start 29 31 31 w (wC x p) (cC c gac gcc wac wcc) (cC d gad gcd wad wcd))
 have hWC:=@wC.eq_1
 have hZC:=@zC.eq_1
 have hCC:=@cC.eq_1
 go_enter func4,ntmps4
 go_wp2_with fail
 generalize ((w.alloc (.cells (wC x p) 29)).alloc (.cells (cC c gac gcc wac wcc) 31)).alloc (.cells (cC d gad gcd wad wcd) 31)=V0 at *
 have B_0:=hid HP0.out.b
 have H_0:=hid (show Ac w w.heap.size (wC x p) V0 from ⟨B_0.out,HP0.out.a.lt,HP0.out.a.cell⟩)
 have C_0:=hid (show Ac w (w.heap.size+1) (cC c gac gcc wac wcc) V0 from ⟨B_0.out,HP0.out.m.lt,HP0.out.m.cell⟩)
 have D_0:=hid (show Ac w (w.heap.size+2) (cC d gad gcd wad wcd) V0 from ⟨B_0.out,HP0.out.r.lt,HP0.out.r.cell⟩)
 clear HP0
 refine (awake16_any _).mono ?_
 rintro e u1 ⟨rfl,b1⟩
 have B_1:=hid (bl B_0.out b1)
 have H_1:=hid (H_0.out.call b1)
 have C_1:=hid (C_0.out.call b1)
 have D_1:=hid (D_0.out.call b1)
 clear b1 B_0 H_0 C_0 D_0
 have hcH:=H_1.out.2.2
 have hlH:=H_1.out.2.1
 have hcC:=C_1.out.2.2
 have hlC:=C_1.out.2.1
 have hcD:=D_1.out.2.2
 have hlD:=D_1.out.2.1
 go_wp2_with fail
 refine (fits16_any x p _ (HWA.out.below B_1.out (Nat.le_refl _))).mono ?_
 rintro e u2 ⟨rfl,b2⟩
 rw [HF.out]
 clear hcH hlH hcC hlC hcD hlD
 have B_2:=hid (bl B_1.out b2)
 have H_2:=hid (H_1.out.call b2)
 have C_2:=hid (C_1.out.call b2)
 have D_2:=hid (D_1.out.call b2)
 clear b2 B_1 H_1 C_1 D_1
 have hcH:=H_2.out.2.2
 have hlH:=H_2.out.2.1
 have hcC:=C_2.out.2.2
 have hlC:=C_2.out.2.1
 have hcD:=D_2.out.2.2
 have hlD:=D_2.out.2.1
 go_wp2_with fail
 refine (Cy c gac wac gcc wcc _ (HGc.out.below B_2.out (Nat.le_refl _)) (HWc.out.below B_2.out (Nat.le_refl _))).mono ?_
 rintro e u3 ⟨rfl,b3⟩
 rw [HFWc.out]
 clear hcH hlH hcC hlC hcD hlD
 have B_3:=hid (bl B_2.out b3)
 have H_3:=hid (H_2.out.call b3)
 have C_3:=hid (C_2.out.call b3)
 have D_3:=hid (D_2.out.call b3)
 clear b3 B_2 H_2 C_2 D_2
 have hcH:=H_3.out.2.2
 have hlH:=H_3.out.2.1
 have hcC:=C_3.out.2.2
 have hlC:=C_3.out.2.1
 have hcD:=D_3.out.2.2
 have hlD:=D_3.out.2.1
 go_wp2_with fail
 refine (Bw c gac wac gcc wcc _ (HGc.out.below B_3.out (Nat.le_refl _)) (HWc.out.below B_3.out (Nat.le_refl _))).mono ?_
 rintro e u4 ⟨rfl,b4⟩
 rw [HMYc.out]
 clear hcH hlH hcC hlC hcD hlD
 have B_4:=hid (bl B_3.out b4)
 have H_4:=hid (H_3.out.call b4)
 have C_4:=hid (C_3.out.call b4)
 have D_4:=hid (D_3.out.call b4)
 clear b4 B_3 H_3 C_3 D_3
 have hcH:=H_4.out.2.2
 have hlH:=H_4.out.2.1
 have hcC:=C_4.out.2.2
 have hlC:=C_4.out.2.1
 have hcD:=D_4.out.2.2
 have hlD:=D_4.out.2.1
 go_wp2_with fail
 refine (Cy d gad wad gcd wcd _ (HGd.out.below B_4.out (Nat.le_refl _)) (HWd.out.below B_4.out (Nat.le_refl _))).mono ?_
 rintro e u5 ⟨rfl,b5⟩
 rw [HFWd.out]
 clear hcH hlH hcC hlC hcD hlD
 have B_5:=hid (bl B_4.out b5)
 have H_5:=hid (H_4.out.call b5)
 have C_5:=hid (C_4.out.call b5)
 have D_5:=hid (D_4.out.call b5)
 clear b5 B_4 H_4 C_4 D_4
 have hcH:=H_5.out.2.2
 have hlH:=H_5.out.2.1
 have hcC:=C_5.out.2.2
 have hlC:=C_5.out.2.1
 have hcD:=D_5.out.2.2
 have hlD:=D_5.out.2.1
 go_wp2_with fail
 refine (Bw d gad wad gcd wcd _ (HGd.out.below B_5.out (Nat.le_refl _)) (HWd.out.below B_5.out (Nat.le_refl _))).mono ?_
 rintro e u6 ⟨rfl,b6⟩
 rw [HMYd.out]
 clear hcH hlH hcC hlC hcD hlD
 have B_6:=hid (bl B_5.out b6)
 have H_6:=hid (H_5.out.call b6)
 have C_6:=hid (C_5.out.call b6)
 have D_6:=hid (D_5.out.call b6)
 clear b6 B_5 H_5 C_5 D_5
 have hcH:=H_6.out.2.2
 have hlH:=H_6.out.2.1
 have hcC:=C_6.out.2.2
 have hlC:=C_6.out.2.1
 have hcD:=D_6.out.2.2
 have hlD:=D_6.out.2.1
 go_wp2_with fail
 refine (awake16_any _).mono ?_
 rintro e u7 ⟨rfl,b7⟩
 clear hcH hlH hcC hlC hcD hlD
 have B_7:=hid (bl B_6.out b7)
 have H_7:=hid (H_6.out.call b7)
 have C_7:=hid (C_6.out.call b7)
 have D_7:=hid (D_6.out.call b7)
 clear b7 B_6 H_6 C_6 D_6
 have hcH:=H_7.out.2.2
 have hlH:=H_7.out.2.1
 have hcC:=C_7.out.2.2
 have hlC:=C_7.out.2.1
 have hcD:=D_7.out.2.2
 have hlD:=D_7.out.2.1
 go_wp2_with fail
 go_ret
 exact ⟨rfl,B_7.out⟩
theorem footApart_go (x:Wd) (p:Wp) (a i b2 i2:Nat) (c d:Cm) (gac wac gad wad:Option Addr) (gcc wcc gcd wcd:Nat) (haa:a≤255) (hi:a%x.at_.length=i) (hbb:b2≤255) (hi2:b2%x.at_.length=i2) (w:World) (h:Ab w p x) (hgc:Ae w gac c.gives) (hwc:Ae w wac c.wants) (hgd:Ae w gad d.gives) (hwd:Ae w wad d.wants) (hf:Ba x=true) (hfwc:Dz c=true) (hmyc:Ak c=true) (hfwd:Dz d=true) (hmyd:Ak d=true):Calls prog 4 #[.agg (wC x p),.int .u8 (a:Int),.agg (cC c gac gcc wac wcc),.int .u8 (b2:Int),.agg (cC d gad gcd wad wcd)] w fun e w'=>e=.returned (.bool true)∧Below w.heap.size w w':=by
 have r1:=Ay a x.at_.length
 have m1:=Bc a x.at_.length
 rw [hi] at r1 m1
 have FT:=hid (Bl hf)
 have hlp:0<x.at_.length:=(Aj FT.out.right).1
 have hne:¬x.at_=[]:=List.length_pos_iff.1 hlp
 have hil:i<x.at_.length:=by rw [←hi];exact Nat.mod_lt _ hlp
 have hlen6:=(Aj FT.out.right).2.1
 have r2:=Ay b2 x.at_.length
 have m2:=Bc b2 x.at_.length
 rw [hi2] at r2 m2
 have hil2:i2<x.at_.length:=by rw [←hi2];exact Nat.mod_lt _ hlp
 have MC:=hid (may16 hmyc).1
 have MD:=hid (may16 hmyd).1
 obtain ⟨⟨y,R⟩,hR⟩:∃R,doW x i c=R:=⟨_,rfl⟩
 obtain ⟨⟨z,S⟩,hS⟩:∃R,doW y i2 d=R:=⟨_,rfl⟩
 obtain ⟨⟨u,T⟩,hT⟩:∃R,doW x i2 d=R:=⟨_,rfl⟩
 obtain ⟨⟨v,U⟩,hU⟩:∃R,doW u i c=R:=⟨_,rfl⟩
 have hap:=fun hd=>foot_apart FT.out.right hil hil2 (c:=c) (d:=d) hd
 simp only [hR,hT,hS,hU] at hap
 have HAPF:=hid hap
 have SY:=hid (show Am x y by have:=Rh x i c;rwa [hR] at this)
 have SU:=hid (show Am x u by have:=Rh x i2 d;rwa [hT] at this)
 have SZ:=hid (show Am x z from SY.out.trans' (by have:=Rh y i2 d;rwa [hS] at this))
 have SV:=hid (show Am x v from SU.out.trans' (by have:=Rh u i c;rwa [hU] at this))
 have RY:=hid (show Ai y=true by have:=Sq FT.out.right hil c;rwa [hR] at this)
 have RU:=hid (show Ai u=true by have:=Sq FT.out.right hil2 d;rwa [hT] at this)
 have HR:=hid hR
 have HS:=hid hS
 have HT:=hid hT
 have HU:=hid hU
 clear hi hi2 hlp hR hS hT hU hap
 have HFWc:=hid hfwc
 clear hfwc
 have HMYc:=hid hmyc
 clear hmyc
 have HFWd:=hid hfwd
 clear hfwd
 have HMYd:=hid hmyd
 clear hmyd
 have HF:=hid hf
 have HWA:=hid h
 clear hf h
 have HGc:=hid hgc
 have HWc:=hid hwc
 clear hgc hwc
 have HGd:=hid hgd
 have HWd:=hid hwd
 clear hgd hwd
 have HP0:=hid (Tri.start 29 31 31 w (wC x p) (cC c gac gcc wac wcc) (cC d gad gcd wad wcd))
 have hWC:=@wC.eq_1
 have hZC:=@zC.eq_1
 have hCC:=@cC.eq_1
 go_enter func4,ntmps4
 go_wp2_with fail
 generalize ((w.alloc (.cells (wC x p) 29)).alloc (.cells (cC c gac gcc wac wcc) 31)).alloc (.cells (cC d gad gcd wad wcd) 31)=V0 at *
 have B_0:=hid HP0.out.b
 have H_0:=hid (show Ac w w.heap.size (wC x p) V0 from ⟨B_0.out,HP0.out.a.lt,HP0.out.a.cell⟩)
 have C_0:=hid (show Ac w (w.heap.size+1) (cC c gac gcc wac wcc) V0 from ⟨B_0.out,HP0.out.m.lt,HP0.out.m.cell⟩)
 have D_0:=hid (show Ac w (w.heap.size+2) (cC d gad gcd wad wcd) V0 from ⟨B_0.out,HP0.out.r.lt,HP0.out.r.cell⟩)
 clear HP0
 refine (awake16_any _).mono ?_
 rintro e u1 ⟨rfl,b1⟩
 have B_1:=hid (bl B_0.out b1)
 have H_1:=hid (H_0.out.call b1)
 have C_1:=hid (C_0.out.call b1)
 have D_1:=hid (D_0.out.call b1)
 clear b1 B_0 H_0 C_0 D_0
 have hcH:=H_1.out.2.2
 have hlH:=H_1.out.2.1
 have hcC:=C_1.out.2.2
 have hlC:=C_1.out.2.1
 have hcD:=D_1.out.2.2
 have hlD:=D_1.out.2.1
 go_wp2_with fail
 refine (fits16_any x p _ (HWA.out.below B_1.out (Nat.le_refl _))).mono ?_
 rintro e u2 ⟨rfl,b2⟩
 rw [HF.out]
 clear hcH hlH hcC hlC hcD hlD
 have B_2:=hid (bl B_1.out b2)
 have H_2:=hid (H_1.out.call b2)
 have C_2:=hid (C_1.out.call b2)
 have D_2:=hid (D_1.out.call b2)
 clear b2 B_1 H_1 C_1 D_1
 have hcH:=H_2.out.2.2
 have hlH:=H_2.out.2.1
 have hcC:=C_2.out.2.2
 have hlC:=C_2.out.2.1
 have hcD:=D_2.out.2.2
 have hlD:=D_2.out.2.1
 go_wp2_with fail
 refine (Cy c gac wac gcc wcc _ (HGc.out.below B_2.out (Nat.le_refl _)) (HWc.out.below B_2.out (Nat.le_refl _))).mono ?_
 rintro e u3 ⟨rfl,b3⟩
 rw [HFWc.out]
 clear hcH hlH hcC hlC hcD hlD
 have B_3:=hid (bl B_2.out b3)
 have H_3:=hid (H_2.out.call b3)
 have C_3:=hid (C_2.out.call b3)
 have D_3:=hid (D_2.out.call b3)
 clear b3 B_2 H_2 C_2 D_2
 have hcH:=H_3.out.2.2
 have hlH:=H_3.out.2.1
 have hcC:=C_3.out.2.2
 have hlC:=C_3.out.2.1
 have hcD:=D_3.out.2.2
 have hlD:=D_3.out.2.1
 go_wp2_with fail
 refine (Bw c gac wac gcc wcc _ (HGc.out.below B_3.out (Nat.le_refl _)) (HWc.out.below B_3.out (Nat.le_refl _))).mono ?_
 rintro e u4 ⟨rfl,b4⟩
 rw [HMYc.out]
 clear hcH hlH hcC hlC hcD hlD
 have B_4:=hid (bl B_3.out b4)
 have H_4:=hid (H_3.out.call b4)
 have C_4:=hid (C_3.out.call b4)
 have D_4:=hid (D_3.out.call b4)
 clear b4 B_3 H_3 C_3 D_3
 have hcH:=H_4.out.2.2
 have hlH:=H_4.out.2.1
 have hcC:=C_4.out.2.2
 have hlC:=C_4.out.2.1
 have hcD:=D_4.out.2.2
 have hlD:=D_4.out.2.1
 go_wp2_with fail
 refine (Cy d gad wad gcd wcd _ (HGd.out.below B_4.out (Nat.le_refl _)) (HWd.out.below B_4.out (Nat.le_refl _))).mono ?_
 rintro e u5 ⟨rfl,b5⟩
 rw [HFWd.out]
 clear hcH hlH hcC hlC hcD hlD
 have B_5:=hid (bl B_4.out b5)
 have H_5:=hid (H_4.out.call b5)
 have C_5:=hid (C_4.out.call b5)
 have D_5:=hid (D_4.out.call b5)
 clear b5 B_4 H_4 C_4 D_4
 have hcH:=H_5.out.2.2
 have hlH:=H_5.out.2.1
 have hcC:=C_5.out.2.2
 have hlC:=C_5.out.2.1
 have hcD:=D_5.out.2.2
 have hlD:=D_5.out.2.1
 go_wp2_with fail
 refine (Bw d gad wad gcd wcd _ (HGd.out.below B_5.out (Nat.le_refl _)) (HWd.out.below B_5.out (Nat.le_refl _))).mono ?_
 rintro e u6 ⟨rfl,b6⟩
 rw [HMYd.out]
 clear hcH hlH hcC hlC hcD hlD
 have B_6:=hid (bl B_5.out b6)
 have H_6:=hid (H_5.out.call b6)
 have C_6:=hid (C_5.out.call b6)
 have D_6:=hid (D_5.out.call b6)
 clear b6 B_5 H_5 C_5 D_5
 have hcH:=H_6.out.2.2
 have hlH:=H_6.out.2.1
 have hcC:=C_6.out.2.2
 have hlC:=C_6.out.2.1
 have hcD:=D_6.out.2.2
 have hlD:=D_6.out.2.1
 go_wp2_with fail
 refine (of_any x p i c gac wac gcc wcc _ FT.out.right (HWA.out.below B_6.out (Nat.le_refl _)) hil MC.out).mono ?_
 rintro e u7 ⟨fl,flc,sl,rfl,hs,hO,b7⟩
 clear hcH hlH hcC hlC hcD hlD
 have B_7:=hid (bl B_6.out b7)
 have H_7:=hid (H_6.out.call b7)
 have C_7:=hid (C_6.out.call b7)
 have D_7:=hid (D_6.out.call b7)
 clear b7 B_6 H_6 C_6 D_6
 have HL:=hid hs
 have RL_7:=hid hO.row
 clear hs hO
 have hcH:=H_7.out.2.2
 have hlH:=H_7.out.2.1
 have hcC:=C_7.out.2.2
 have hlC:=C_7.out.2.1
 have hcD:=D_7.out.2.2
 have hlD:=D_7.out.2.1
 go_wp2_with fail
 refine (of_any x p i2 d gad wad gcd wcd _ FT.out.right (HWA.out.below B_7.out (Nat.le_refl _)) hil2 MD.out).mono ?_
 rintro e u8 ⟨fm,fmc,sm,rfl,hs,hO,b8⟩
 clear hcH hlH hcC hlC hcD hlD
 have B_8:=hid (bl B_7.out b8)
 have H_8:=hid (H_7.out.call b8)
 have C_8:=hid (C_7.out.call b8)
 have D_8:=hid (D_7.out.call b8)
 have RL_8:=hid (RL_7.out.call b8)
 clear b8 B_7 H_7 C_7 D_7 RL_7
 have HM:=hid hs
 have RM_8:=hid hO.row
 clear hs hO
 have hcH:=H_8.out.2.2
 have hlH:=H_8.out.2.1
 have hcC:=C_8.out.2.2
 have hlC:=C_8.out.2.1
 have hcD:=D_8.out.2.2
 have hlD:=D_8.out.2.1
 go_wp2_with fail
 clear hcH hlH hcC hlC hcD hlD
 have hsl:=RL_8.out.len
 go_loopw [15] (fun v wr=>∃k:Nat,k≤sl.length∧v=.int .i64 k∧(∀z∈sl.take k,¬z∈sm)∧Below u8.heap.size u8 wr) (fun v _=>sl.length-(intOf v).toNat)
 case atStart=>exact ⟨0,Nat.zero_le _,rfl,by simp,Below.refl _ _⟩
 case round =>
  obtain ⟨k,hk,rfl,hall,hbel⟩:=hrel
  have HBE:=hid hbel
  have HALL:=hid hall
  clear hbel hall
  by_cases hlt:k<sl.length
  ·have B_900:=hid (bl B_8.out HBE.out)
   have RL_900:=hid (Ar.call RL_8.out HBE.out)
   have RM_900:=hid (Ar.call RM_8.out HBE.out)
   obtain ⟨sb,so,rfl,slt,e0,e1⟩:=Au.cells RL_900.out hlt
   have HTK:=hid (show sl.take (k+1)=sl.take k++[sl[k]] by rw [List.take_succ_eq_append_getElem hlt])
   generalize sl[k]=zz at *
   obtain ⟨z0,z1⟩:=zz
   simp only at e0 e1
   have hw:IntKind.i64.wrap ((k:Int)+1)=(k:Int)+1:=IntWalk.i64_in _ (by omega)
   by_cases hz:(⟨z0,z1⟩:Pl)∈sm
   ·have HZ:=hid hz
    clear hz
    go_wp2_with fail
    have KS:Hid (∀w',Below wr.heap.size wr w'→Below wr.heap.size wr w'∧w'.cell? ⟨sb,so+k*2,none⟩=some (.int .i64 z0)∧w'.cell? ⟨sb,so+k*2+1,none⟩=some (.int .i64 z1)):=hid (fun w' hb=>⟨hb,Ad e0 hb,Ad e1 hb⟩)
    have D0:=hid (Af (Below.refl wr.heap.size wr))
    refine tkS (S:=(fun w'=>Below wr.heap.size wr w'∧w'.cell? ⟨sb,so+k*2,none⟩=some (.int .i64 z0)∧w'.cell? ⟨sb,so+k*2+1,none⟩=some (.int .i64 z1))) (by (first|(with_reducible exact KS.out _ D0.out))) (fun hHeld=>?_)
    refine tkl [0,1,2,3,4,5,6,7,8,9,10] ?_
    iterate 11
     refine tW ?_
     try go_frame
    refine rdy1 11 (fun K hK=>?_)
    go_simp
    refine (has_b fm fmc sm ⟨z0,z1⟩ _ (RM_900.out.call D0.out)).mono ?_;rintro e x1 ⟨rfl,hb9⟩;have D1:=hid (Aa D0.out D0.out.size hb9);rw [decide_eq_true HZ.out];clear hb9
    try go_wp2_with fail
    refine hK.out _ _ (by (first|(with_reducible exact KS.out _ D1.out))) (fun hHeld=>?_)
    clear hK K
    try go_frame
    refine tkD ?_
    clear hHeld KS
    have HB9:=hid (bl HBE.out D1.out)
    clear D0 D1
    go_wp2_with fail
    go_ret
    exact ⟨rfl,bl B_8.out HB9.out⟩
   ·have HZ:=hid hz
    clear hz
    go_wp2_with fail
    have KS:Hid (∀w',Below wr.heap.size wr w'→Below wr.heap.size wr w'∧w'.cell? ⟨sb,so+k*2,none⟩=some (.int .i64 z0)∧w'.cell? ⟨sb,so+k*2+1,none⟩=some (.int .i64 z1)):=hid (fun w' hb=>⟨hb,Ad e0 hb,Ad e1 hb⟩)
    have D0:=hid (Af (Below.refl wr.heap.size wr))
    refine tkS (S:=(fun w'=>Below wr.heap.size wr w'∧w'.cell? ⟨sb,so+k*2,none⟩=some (.int .i64 z0)∧w'.cell? ⟨sb,so+k*2+1,none⟩=some (.int .i64 z1))) (by (first|(with_reducible exact KS.out _ D0.out))) (fun hHeld=>?_)
    refine tkl [0,1,2,3,4,5,6,7,8,9,10] ?_
    iterate 11
     refine tW ?_
     try go_frame
    refine rdy1 11 (fun K hK=>?_)
    go_simp
    refine (has_b fm fmc sm ⟨z0,z1⟩ _ (RM_900.out.call D0.out)).mono ?_;rintro e x1 ⟨rfl,hb9⟩;have D1:=hid (Aa D0.out D0.out.size hb9);rw [decide_eq_false HZ.out];clear hb9
    try go_wp2_with fail
    refine hK.out _ _ (by (first|(with_reducible exact KS.out _ D1.out))) (fun hHeld=>?_)
    clear hK K
    try go_frame
    refine tkD ?_
    clear hHeld KS
    have HB9:=hid (bl HBE.out D1.out)
    clear D0 D1
    go_wp2_with fail
    go_roundw
    case rel=>exact ⟨k+1,by omega,by go_num,by rw [HTK.out];intro q hq;rcases List.mem_append.1 hq with h|h;exact HALL.out q h;rw [List.mem_singleton.1 h];exact HZ.out,HB9.out⟩
    case measure=>simp [intOf];omega
  ·have hke:k=sl.length:=by omega
   subst hke
   rw [List.take_length] at HALL
   have HAP:=hid (HAPF.out (fun q h1 h2=>HALL.out q ((HL.out.mem q).2 h1) ((HM.out.mem q).2 h2)))
   have B_9:=hid (bl B_8.out HBE.out)
   have H_9:=hid (H_8.out.call HBE.out)
   have C_9:=hid (C_8.out.call HBE.out)
   have D_9:=hid (D_8.out.call HBE.out)
   have RL_9:=hid (RL_8.out.call HBE.out)
   have RM_9:=hid (RM_8.out.call HBE.out)
   clear HBE HAPF HALL hlt hk B_8 H_8 C_8 D_8 RL_8 RM_8
   have hcH:=H_9.out.2.2
   have hlH:=H_9.out.2.1
   have hcC:=C_9.out.2.2
   have hlC:=C_9.out.2.1
   have hcD:=D_9.out.2.2
   have hlD:=D_9.out.2.1
   go_wp2_with fail
   refine (Pw (Am.refl x) p i c gac wac gcc wcc _ FT.out.right (HWA.out.below B_9.out (Nat.le_refl _)) hil (HGc.out.below B_9.out (Nat.le_refl _)) (HWc.out.below B_9.out (Nat.le_refl _)) HR.out).mono ?_
   rintro e u9 ⟨q1,qa1,ia1,qc1,ic1,rfl,g,b9⟩
   clear hcH hlH hcC hlC hcD hlD
   have B_10:=hid (bl B_9.out b9)
   have H_10:=hid (H_9.out.call b9)
   have C_10:=hid (C_9.out.call b9)
   have D_10:=hid (D_9.out.call b9)
   have RL_10:=hid (RL_9.out.call b9)
   have RM_10:=hid (RM_9.out.call b9)
   clear b9 B_9 H_9 C_9 D_9 RL_9 RM_9
   have hcH:=H_10.out.2.2
   have hlH:=H_10.out.2.1
   have hcC:=C_10.out.2.2
   have hlC:=C_10.out.2.1
   have hcD:=D_10.out.2.2
   have hlD:=D_10.out.2.1
   have WYA_10:=hid (g.world (HWA.out.below B_10.out (Nat.le_refl _)))
   have NYA_10:=hid g.2
   clear g
   go_wp2_with fail
   clear hcH hlH hcC hlC hcD hlD
   have s11:(u9.alloc (.cells (wC x q1) 29)).heap.size=u9.heap.size+1:=by simp
   have zb11:Below u9.heap.size u9 (u9.alloc (.cells (wC x q1) 29)):=b_a _
   have B_11:=hid (bl B_10.out zb11)
   have H_11:=hid (H_10.out.call zb11)
   have C_11:=hid (C_10.out.call zb11)
   have D_11:=hid (D_10.out.call zb11)
   have RL_11:=hid (RL_10.out.call zb11)
   have RM_11:=hid (RM_10.out.call zb11)
   have WYA_11:=hid (WYA_10.out.call zb11)
   have NYA_11:=hid (NYA_10.out.call zb11)
   have YA_11:=hid (Ac.newb (w:=w) (A:=(wC x q1)) (t:=29) (n:=u9.heap.size) B_10.out rfl)
   clear zb11 B_10 H_10 C_10 D_10 RL_10 RM_10 WYA_10 NYA_10
   generalize u9.alloc (.cells (wC x q1) 29)=V10 at *
   have s12:(V10.alloc (.cells #[.int .i64 R.err,.int .i64 R.kind,.int .i64 R.room,.slice qa1 R.players.length qc1,.slice ia1 R.items.length ic1,.int .i64 R.coins] 40)).heap.size=V10.heap.size+1:=by simp
   have zb12:Below V10.heap.size V10 (V10.alloc (.cells #[.int .i64 R.err,.int .i64 R.kind,.int .i64 R.room,.slice qa1 R.players.length qc1,.slice ia1 R.items.length ic1,.int .i64 R.coins] 40)):=b_a _
   have B_12:=hid (bl B_11.out zb12)
   have H_12:=hid (H_11.out.call zb12)
   have C_12:=hid (C_11.out.call zb12)
   have D_12:=hid (D_11.out.call zb12)
   have YA_12:=hid (YA_11.out.call zb12)
   have RL_12:=hid (RL_11.out.call zb12)
   have RM_12:=hid (RM_11.out.call zb12)
   have WYA_12:=hid (WYA_11.out.call zb12)
   have NYA_12:=hid (NYA_11.out.call zb12)
   have YAr_12:=hid (Ac.newb (w:=w) (A:=#[.int .i64 R.err,.int .i64 R.kind,.int .i64 R.room,.slice qa1 R.players.length qc1,.slice ia1 R.items.length ic1,.int .i64 R.coins]) (t:=40) (n:=u9.heap.size+1) B_11.out (by omega))
   clear zb12 B_11 H_11 C_11 D_11 YA_11 RL_11 RM_11 WYA_11 NYA_11
   generalize V10.alloc (.cells #[.int .i64 R.err,.int .i64 R.kind,.int .i64 R.room,.slice qa1 R.players.length qc1,.slice ia1 R.items.length ic1,.int .i64 R.coins] 40)=V11 at *
   clear s11 s12
   have hcH:=H_12.out.2.2
   have hlH:=H_12.out.2.1
   have hcC:=C_12.out.2.2
   have hlC:=C_12.out.2.1
   have hcD:=D_12.out.2.2
   have hlD:=D_12.out.2.1
   have hcYA:=YA_12.out.2.2
   have hlYA:=YA_12.out.2.1
   have hcYAr:=YAr_12.out.2.2
   have hlYAr:=YAr_12.out.2.1
   refine (Pw SY.out q1 i2 d gad wad gcd wcd _ RY.out WYA_12.out (by rw [SY.out.at_];exact hil2) (HGd.out.below B_12.out (Nat.le_refl _)) (HWd.out.below B_12.out (Nat.le_refl _)) HS.out).mono ?_
   rintro e u12 ⟨q2,qa2,ia2,qc2,ic2,rfl,g,b12⟩
   clear hcH hlH hcC hlC hcD hlD hcYA hlYA hcYAr hlYAr
   have B_13:=hid (bl B_12.out b12)
   have H_13:=hid (H_12.out.call b12)
   have C_13:=hid (C_12.out.call b12)
   have D_13:=hid (D_12.out.call b12)
   have YA_13:=hid (YA_12.out.call b12)
   have YAr_13:=hid (YAr_12.out.call b12)
   have RL_13:=hid (RL_12.out.call b12)
   have RM_13:=hid (RM_12.out.call b12)
   have WYA_13:=hid (WYA_12.out.call b12)
   have NYA_13:=hid (NYA_12.out.call b12)
   clear b12 B_12 H_12 C_12 D_12 YA_12 YAr_12 RL_12 RM_12 WYA_12 NYA_12
   have hcH:=H_13.out.2.2
   have hlH:=H_13.out.2.1
   have hcC:=C_13.out.2.2
   have hlC:=C_13.out.2.1
   have hcD:=D_13.out.2.2
   have hlD:=D_13.out.2.1
   have hcYA:=YA_13.out.2.2
   have hlYA:=YA_13.out.2.1
   have hcYAr:=YAr_13.out.2.2
   have hlYAr:=YAr_13.out.2.1
   have WZA_13:=hid (g.world (WYA_13.out))
   have NZA_13:=hid g.2
   clear g
   go_wp2_with fail
   clear hcH hlH hcC hlC hcD hlD hcYA hlYA hcYAr hlYAr
   have s14:(u12.alloc (.cells (wC x q2) 29)).heap.size=u12.heap.size+1:=by simp
   have zb14:Below u12.heap.size u12 (u12.alloc (.cells (wC x q2) 29)):=b_a _
   have B_14:=hid (bl B_13.out zb14)
   have H_14:=hid (H_13.out.call zb14)
   have C_14:=hid (C_13.out.call zb14)
   have D_14:=hid (D_13.out.call zb14)
   have YA_14:=hid (YA_13.out.call zb14)
   have YAr_14:=hid (YAr_13.out.call zb14)
   have RL_14:=hid (RL_13.out.call zb14)
   have RM_14:=hid (RM_13.out.call zb14)
   have WYA_14:=hid (WYA_13.out.call zb14)
   have NYA_14:=hid (NYA_13.out.call zb14)
   have WZA_14:=hid (WZA_13.out.call zb14)
   have NZA_14:=hid (NZA_13.out.call zb14)
   have ZA_14:=hid (Ac.newb (w:=w) (A:=(wC x q2)) (t:=29) (n:=u12.heap.size) B_13.out rfl)
   clear zb14 B_13 H_13 C_13 D_13 YA_13 YAr_13 RL_13 RM_13 WYA_13 NYA_13 WZA_13 NZA_13
   generalize u12.alloc (.cells (wC x q2) 29)=V13 at *
   have s15:(V13.alloc (.cells #[.int .i64 S.err,.int .i64 S.kind,.int .i64 S.room,.slice qa2 S.players.length qc2,.slice ia2 S.items.length ic2,.int .i64 S.coins] 40)).heap.size=V13.heap.size+1:=by simp
   have zb15:Below V13.heap.size V13 (V13.alloc (.cells #[.int .i64 S.err,.int .i64 S.kind,.int .i64 S.room,.slice qa2 S.players.length qc2,.slice ia2 S.items.length ic2,.int .i64 S.coins] 40)):=b_a _
   have B_15:=hid (bl B_14.out zb15)
   have H_15:=hid (H_14.out.call zb15)
   have C_15:=hid (C_14.out.call zb15)
   have D_15:=hid (D_14.out.call zb15)
   have YA_15:=hid (YA_14.out.call zb15)
   have YAr_15:=hid (YAr_14.out.call zb15)
   have ZA_15:=hid (ZA_14.out.call zb15)
   have RL_15:=hid (RL_14.out.call zb15)
   have RM_15:=hid (RM_14.out.call zb15)
   have WYA_15:=hid (WYA_14.out.call zb15)
   have NYA_15:=hid (NYA_14.out.call zb15)
   have WZA_15:=hid (WZA_14.out.call zb15)
   have NZA_15:=hid (NZA_14.out.call zb15)
   have ZAr_15:=hid (Ac.newb (w:=w) (A:=#[.int .i64 S.err,.int .i64 S.kind,.int .i64 S.room,.slice qa2 S.players.length qc2,.slice ia2 S.items.length ic2,.int .i64 S.coins]) (t:=40) (n:=u12.heap.size+1) B_14.out (by omega))
   clear zb15 B_14 H_14 C_14 D_14 YA_14 YAr_14 ZA_14 RL_14 RM_14 WYA_14 NYA_14 WZA_14 NZA_14
   generalize V13.alloc (.cells #[.int .i64 S.err,.int .i64 S.kind,.int .i64 S.room,.slice qa2 S.players.length qc2,.slice ia2 S.items.length ic2,.int .i64 S.coins] 40)=V14 at *
   clear s14 s15
   have hcH:=H_15.out.2.2
   have hlH:=H_15.out.2.1
   have hcC:=C_15.out.2.2
   have hlC:=C_15.out.2.1
   have hcD:=D_15.out.2.2
   have hlD:=D_15.out.2.1
   have hcYA:=YA_15.out.2.2
   have hlYA:=YA_15.out.2.1
   have hcYAr:=YAr_15.out.2.2
   have hlYAr:=YAr_15.out.2.1
   have hcZA:=ZA_15.out.2.2
   have hlZA:=ZA_15.out.2.1
   have hcZAr:=ZAr_15.out.2.2
   have hlZAr:=ZAr_15.out.2.1
   refine (Pw (Am.refl x) p i2 d gad wad gcd wcd _ FT.out.right (HWA.out.below B_15.out (Nat.le_refl _)) hil2 (HGd.out.below B_15.out (Nat.le_refl _)) (HWd.out.below B_15.out (Nat.le_refl _)) HT.out).mono ?_
   rintro e u15 ⟨q3,qa3,ia3,qc3,ic3,rfl,g,b15⟩
   clear hcH hlH hcC hlC hcD hlD hcYA hlYA hcYAr hlYAr hcZA hlZA hcZAr hlZAr
   have B_16:=hid (bl B_15.out b15)
   have H_16:=hid (H_15.out.call b15)
   have C_16:=hid (C_15.out.call b15)
   have D_16:=hid (D_15.out.call b15)
   have YA_16:=hid (YA_15.out.call b15)
   have YAr_16:=hid (YAr_15.out.call b15)
   have ZA_16:=hid (ZA_15.out.call b15)
   have ZAr_16:=hid (ZAr_15.out.call b15)
   have RL_16:=hid (RL_15.out.call b15)
   have RM_16:=hid (RM_15.out.call b15)
   have WYA_16:=hid (WYA_15.out.call b15)
   have NYA_16:=hid (NYA_15.out.call b15)
   have WZA_16:=hid (WZA_15.out.call b15)
   have NZA_16:=hid (NZA_15.out.call b15)
   clear b15 B_15 H_15 C_15 D_15 YA_15 YAr_15 ZA_15 ZAr_15 RL_15 RM_15 WYA_15 NYA_15 WZA_15 NZA_15
   have hcH:=H_16.out.2.2
   have hlH:=H_16.out.2.1
   have hcC:=C_16.out.2.2
   have hlC:=C_16.out.2.1
   have hcD:=D_16.out.2.2
   have hlD:=D_16.out.2.1
   have hcYA:=YA_16.out.2.2
   have hlYA:=YA_16.out.2.1
   have hcYAr:=YAr_16.out.2.2
   have hlYAr:=YAr_16.out.2.1
   have hcZA:=ZA_16.out.2.2
   have hlZA:=ZA_16.out.2.1
   have hcZAr:=ZAr_16.out.2.2
   have hlZAr:=ZAr_16.out.2.1
   have WUA_16:=hid (g.world (HWA.out.below B_16.out (Nat.le_refl _)))
   have NUA_16:=hid g.2
   clear g
   go_wp2_with fail
   clear hcH hlH hcC hlC hcD hlD hcYA hlYA hcYAr hlYAr hcZA hlZA hcZAr hlZAr
   have s17:(u15.alloc (.cells (wC x q3) 29)).heap.size=u15.heap.size+1:=by simp
   have zb17:Below u15.heap.size u15 (u15.alloc (.cells (wC x q3) 29)):=b_a _
   have B_17:=hid (bl B_16.out zb17)
   have H_17:=hid (H_16.out.call zb17)
   have C_17:=hid (C_16.out.call zb17)
   have D_17:=hid (D_16.out.call zb17)
   have YA_17:=hid (YA_16.out.call zb17)
   have YAr_17:=hid (YAr_16.out.call zb17)
   have ZA_17:=hid (ZA_16.out.call zb17)
   have ZAr_17:=hid (ZAr_16.out.call zb17)
   have RL_17:=hid (RL_16.out.call zb17)
   have RM_17:=hid (RM_16.out.call zb17)
   have WYA_17:=hid (WYA_16.out.call zb17)
   have NYA_17:=hid (NYA_16.out.call zb17)
   have WZA_17:=hid (WZA_16.out.call zb17)
   have NZA_17:=hid (NZA_16.out.call zb17)
   have WUA_17:=hid (WUA_16.out.call zb17)
   have NUA_17:=hid (NUA_16.out.call zb17)
   have UA_17:=hid (Ac.newb (w:=w) (A:=(wC x q3)) (t:=29) (n:=u15.heap.size) B_16.out rfl)
   clear zb17 B_16 H_16 C_16 D_16 YA_16 YAr_16 ZA_16 ZAr_16 RL_16 RM_16 WYA_16 NYA_16 WZA_16 NZA_16 WUA_16 NUA_16
   generalize u15.alloc (.cells (wC x q3) 29)=V16 at *
   have s18:(V16.alloc (.cells #[.int .i64 T.err,.int .i64 T.kind,.int .i64 T.room,.slice qa3 T.players.length qc3,.slice ia3 T.items.length ic3,.int .i64 T.coins] 40)).heap.size=V16.heap.size+1:=by simp
   have zb18:Below V16.heap.size V16 (V16.alloc (.cells #[.int .i64 T.err,.int .i64 T.kind,.int .i64 T.room,.slice qa3 T.players.length qc3,.slice ia3 T.items.length ic3,.int .i64 T.coins] 40)):=b_a _
   have B_18:=hid (bl B_17.out zb18)
   have H_18:=hid (H_17.out.call zb18)
   have C_18:=hid (C_17.out.call zb18)
   have D_18:=hid (D_17.out.call zb18)
   have YA_18:=hid (YA_17.out.call zb18)
   have YAr_18:=hid (YAr_17.out.call zb18)
   have ZA_18:=hid (ZA_17.out.call zb18)
   have ZAr_18:=hid (ZAr_17.out.call zb18)
   have UA_18:=hid (UA_17.out.call zb18)
   have RL_18:=hid (RL_17.out.call zb18)
   have RM_18:=hid (RM_17.out.call zb18)
   have WYA_18:=hid (WYA_17.out.call zb18)
   have NYA_18:=hid (NYA_17.out.call zb18)
   have WZA_18:=hid (WZA_17.out.call zb18)
   have NZA_18:=hid (NZA_17.out.call zb18)
   have WUA_18:=hid (WUA_17.out.call zb18)
   have NUA_18:=hid (NUA_17.out.call zb18)
   have UAr_18:=hid (Ac.newb (w:=w) (A:=#[.int .i64 T.err,.int .i64 T.kind,.int .i64 T.room,.slice qa3 T.players.length qc3,.slice ia3 T.items.length ic3,.int .i64 T.coins]) (t:=40) (n:=u15.heap.size+1) B_17.out (by omega))
   clear zb18 B_17 H_17 C_17 D_17 YA_17 YAr_17 ZA_17 ZAr_17 UA_17 RL_17 RM_17 WYA_17 NYA_17 WZA_17 NZA_17 WUA_17 NUA_17
   generalize V16.alloc (.cells #[.int .i64 T.err,.int .i64 T.kind,.int .i64 T.room,.slice qa3 T.players.length qc3,.slice ia3 T.items.length ic3,.int .i64 T.coins] 40)=V17 at *
   clear s17 s18
   have hcH:=H_18.out.2.2
   have hlH:=H_18.out.2.1
   have hcC:=C_18.out.2.2
   have hlC:=C_18.out.2.1
   have hcD:=D_18.out.2.2
   have hlD:=D_18.out.2.1
   have hcYA:=YA_18.out.2.2
   have hlYA:=YA_18.out.2.1
   have hcYAr:=YAr_18.out.2.2
   have hlYAr:=YAr_18.out.2.1
   have hcZA:=ZA_18.out.2.2
   have hlZA:=ZA_18.out.2.1
   have hcZAr:=ZAr_18.out.2.2
   have hlZAr:=ZAr_18.out.2.1
   have hcUA:=UA_18.out.2.2
   have hlUA:=UA_18.out.2.1
   have hcUAr:=UAr_18.out.2.2
   have hlUAr:=UAr_18.out.2.1
   refine (Pw SU.out q3 i c gac wac gcc wcc _ RU.out WUA_18.out (by rw [SU.out.at_];exact hil) (HGc.out.below B_18.out (Nat.le_refl _)) (HWc.out.below B_18.out (Nat.le_refl _)) HU.out).mono ?_
   rintro e u18 ⟨q4,qa4,ia4,qc4,ic4,rfl,g,b18⟩
   clear hcH hlH hcC hlC hcD hlD hcYA hlYA hcYAr hlYAr hcZA hlZA hcZAr hlZAr hcUA hlUA hcUAr hlUAr
   have B_19:=hid (bl B_18.out b18)
   have H_19:=hid (H_18.out.call b18)
   have C_19:=hid (C_18.out.call b18)
   have D_19:=hid (D_18.out.call b18)
   have YA_19:=hid (YA_18.out.call b18)
   have YAr_19:=hid (YAr_18.out.call b18)
   have ZA_19:=hid (ZA_18.out.call b18)
   have ZAr_19:=hid (ZAr_18.out.call b18)
   have UA_19:=hid (UA_18.out.call b18)
   have UAr_19:=hid (UAr_18.out.call b18)
   have RL_19:=hid (RL_18.out.call b18)
   have RM_19:=hid (RM_18.out.call b18)
   have WYA_19:=hid (WYA_18.out.call b18)
   have NYA_19:=hid (NYA_18.out.call b18)
   have WZA_19:=hid (WZA_18.out.call b18)
   have NZA_19:=hid (NZA_18.out.call b18)
   have WUA_19:=hid (WUA_18.out.call b18)
   have NUA_19:=hid (NUA_18.out.call b18)
   clear b18 B_18 H_18 C_18 D_18 YA_18 YAr_18 ZA_18 ZAr_18 UA_18 UAr_18 RL_18 RM_18 WYA_18 NYA_18 WZA_18 NZA_18 WUA_18 NUA_18
   have hcH:=H_19.out.2.2
   have hlH:=H_19.out.2.1
   have hcC:=C_19.out.2.2
   have hlC:=C_19.out.2.1
   have hcD:=D_19.out.2.2
   have hlD:=D_19.out.2.1
   have hcYA:=YA_19.out.2.2
   have hlYA:=YA_19.out.2.1
   have hcYAr:=YAr_19.out.2.2
   have hlYAr:=YAr_19.out.2.1
   have hcZA:=ZA_19.out.2.2
   have hlZA:=ZA_19.out.2.1
   have hcZAr:=ZAr_19.out.2.2
   have hlZAr:=ZAr_19.out.2.1
   have hcUA:=UA_19.out.2.2
   have hlUA:=UA_19.out.2.1
   have hcUAr:=UAr_19.out.2.2
   have hlUAr:=UAr_19.out.2.1
   have WVA_19:=hid (g.world (WUA_19.out))
   have NVA_19:=hid g.2
   clear g
   go_wp2_with fail
   clear hcH hlH hcC hlC hcD hlD hcYA hlYA hcYAr hlYAr hcZA hlZA hcZAr hlZAr hcUA hlUA hcUAr hlUAr
   have s20:(u18.alloc (.cells (wC x q4) 29)).heap.size=u18.heap.size+1:=by simp
   have zb20:Below u18.heap.size u18 (u18.alloc (.cells (wC x q4) 29)):=b_a _
   have B_20:=hid (bl B_19.out zb20)
   have H_20:=hid (H_19.out.call zb20)
   have C_20:=hid (C_19.out.call zb20)
   have D_20:=hid (D_19.out.call zb20)
   have YA_20:=hid (YA_19.out.call zb20)
   have YAr_20:=hid (YAr_19.out.call zb20)
   have ZA_20:=hid (ZA_19.out.call zb20)
   have ZAr_20:=hid (ZAr_19.out.call zb20)
   have UA_20:=hid (UA_19.out.call zb20)
   have UAr_20:=hid (UAr_19.out.call zb20)
   have RL_20:=hid (RL_19.out.call zb20)
   have RM_20:=hid (RM_19.out.call zb20)
   have WYA_20:=hid (WYA_19.out.call zb20)
   have NYA_20:=hid (NYA_19.out.call zb20)
   have WZA_20:=hid (WZA_19.out.call zb20)
   have NZA_20:=hid (NZA_19.out.call zb20)
   have WUA_20:=hid (WUA_19.out.call zb20)
   have NUA_20:=hid (NUA_19.out.call zb20)
   have WVA_20:=hid (WVA_19.out.call zb20)
   have NVA_20:=hid (NVA_19.out.call zb20)
   have VA_20:=hid (Ac.newb (w:=w) (A:=(wC x q4)) (t:=29) (n:=u18.heap.size) B_19.out rfl)
   clear zb20 B_19 H_19 C_19 D_19 YA_19 YAr_19 ZA_19 ZAr_19 UA_19 UAr_19 RL_19 RM_19 WYA_19 NYA_19 WZA_19 NZA_19 WUA_19 NUA_19 WVA_19 NVA_19
   generalize u18.alloc (.cells (wC x q4) 29)=V19 at *
   have s21:(V19.alloc (.cells #[.int .i64 U.err,.int .i64 U.kind,.int .i64 U.room,.slice qa4 U.players.length qc4,.slice ia4 U.items.length ic4,.int .i64 U.coins] 40)).heap.size=V19.heap.size+1:=by simp
   have zb21:Below V19.heap.size V19 (V19.alloc (.cells #[.int .i64 U.err,.int .i64 U.kind,.int .i64 U.room,.slice qa4 U.players.length qc4,.slice ia4 U.items.length ic4,.int .i64 U.coins] 40)):=b_a _
   have B_21:=hid (bl B_20.out zb21)
   have H_21:=hid (H_20.out.call zb21)
   have C_21:=hid (C_20.out.call zb21)
   have D_21:=hid (D_20.out.call zb21)
   have YA_21:=hid (YA_20.out.call zb21)
   have YAr_21:=hid (YAr_20.out.call zb21)
   have ZA_21:=hid (ZA_20.out.call zb21)
   have ZAr_21:=hid (ZAr_20.out.call zb21)
   have UA_21:=hid (UA_20.out.call zb21)
   have UAr_21:=hid (UAr_20.out.call zb21)
   have VA_21:=hid (VA_20.out.call zb21)
   have RL_21:=hid (RL_20.out.call zb21)
   have RM_21:=hid (RM_20.out.call zb21)
   have WYA_21:=hid (WYA_20.out.call zb21)
   have NYA_21:=hid (NYA_20.out.call zb21)
   have WZA_21:=hid (WZA_20.out.call zb21)
   have NZA_21:=hid (NZA_20.out.call zb21)
   have WUA_21:=hid (WUA_20.out.call zb21)
   have NUA_21:=hid (NUA_20.out.call zb21)
   have WVA_21:=hid (WVA_20.out.call zb21)
   have NVA_21:=hid (NVA_20.out.call zb21)
   have VAr_21:=hid (Ac.newb (w:=w) (A:=#[.int .i64 U.err,.int .i64 U.kind,.int .i64 U.room,.slice qa4 U.players.length qc4,.slice ia4 U.items.length ic4,.int .i64 U.coins]) (t:=40) (n:=u18.heap.size+1) B_20.out (by omega))
   clear zb21 B_20 H_20 C_20 D_20 YA_20 YAr_20 ZA_20 ZAr_20 UA_20 UAr_20 VA_20 RL_20 RM_20 WYA_20 NYA_20 WZA_20 NZA_20 WUA_20 NUA_20 WVA_20 NVA_20
   generalize V19.alloc (.cells #[.int .i64 U.err,.int .i64 U.kind,.int .i64 U.room,.slice qa4 U.players.length qc4,.slice ia4 U.items.length ic4,.int .i64 U.coins] 40)=V20 at *
   clear s20 s21
   have hcH:=H_21.out.2.2
   have hlH:=H_21.out.2.1
   have hcC:=C_21.out.2.2
   have hlC:=C_21.out.2.1
   have hcD:=D_21.out.2.2
   have hlD:=D_21.out.2.1
   have hcYA:=YA_21.out.2.2
   have hlYA:=YA_21.out.2.1
   have hcYAr:=YAr_21.out.2.2
   have hlYAr:=YAr_21.out.2.1
   have hcZA:=ZA_21.out.2.2
   have hlZA:=ZA_21.out.2.1
   have hcZAr:=ZAr_21.out.2.2
   have hlZAr:=ZAr_21.out.2.1
   have hcUA:=UA_21.out.2.2
   have hlUA:=UA_21.out.2.1
   have hcUAr:=UAr_21.out.2.2
   have hlUAr:=UAr_21.out.2.1
   have hcVA:=VA_21.out.2.2
   have hlVA:=VA_21.out.2.1
   have hcVAr:=VAr_21.out.2.2
   have hlVAr:=VAr_21.out.2.1
   refine (Gm8 HAP.out.1.symm qa1 ia1 qa4 ia4 qc1 ic1 qc4 ic4 _ NYA_21.out.ints NYA_21.out.sns NVA_21.out.ints NVA_21.out.sns).mono ?_
   rintro e u21 ⟨rfl,b21⟩
   clear hcH hlH hcC hlC hcD hlD hcYA hlYA hcYAr hlYAr hcZA hlZA hcZAr hlZAr hcUA hlUA hcUAr hlUAr hcVA hlVA hcVAr hlVAr
   have B_22:=hid (bl B_21.out b21)
   have H_22:=hid (H_21.out.call b21)
   have C_22:=hid (C_21.out.call b21)
   have D_22:=hid (D_21.out.call b21)
   have YA_22:=hid (YA_21.out.call b21)
   have YAr_22:=hid (YAr_21.out.call b21)
   have ZA_22:=hid (ZA_21.out.call b21)
   have ZAr_22:=hid (ZAr_21.out.call b21)
   have UA_22:=hid (UA_21.out.call b21)
   have UAr_22:=hid (UAr_21.out.call b21)
   have VA_22:=hid (VA_21.out.call b21)
   have VAr_22:=hid (VAr_21.out.call b21)
   have RL_22:=hid (RL_21.out.call b21)
   have RM_22:=hid (RM_21.out.call b21)
   have WYA_22:=hid (WYA_21.out.call b21)
   have NYA_22:=hid (NYA_21.out.call b21)
   have WZA_22:=hid (WZA_21.out.call b21)
   have NZA_22:=hid (NZA_21.out.call b21)
   have WUA_22:=hid (WUA_21.out.call b21)
   have NUA_22:=hid (NUA_21.out.call b21)
   have WVA_22:=hid (WVA_21.out.call b21)
   have NVA_22:=hid (NVA_21.out.call b21)
   clear b21 B_21 H_21 C_21 D_21 YA_21 YAr_21 ZA_21 ZAr_21 UA_21 UAr_21 VA_21 VAr_21 RL_21 RM_21 WYA_21 NYA_21 WZA_21 NZA_21 WUA_21 NUA_21 WVA_21 NVA_21
   have hcH:=H_22.out.2.2
   have hlH:=H_22.out.2.1
   have hcC:=C_22.out.2.2
   have hlC:=C_22.out.2.1
   have hcD:=D_22.out.2.2
   have hlD:=D_22.out.2.1
   have hcYA:=YA_22.out.2.2
   have hlYA:=YA_22.out.2.1
   have hcYAr:=YAr_22.out.2.2
   have hlYAr:=YAr_22.out.2.1
   have hcZA:=ZA_22.out.2.2
   have hlZA:=ZA_22.out.2.1
   have hcZAr:=ZAr_22.out.2.2
   have hlZAr:=ZAr_22.out.2.1
   have hcUA:=UA_22.out.2.2
   have hlUA:=UA_22.out.2.1
   have hcUAr:=UAr_22.out.2.2
   have hlUAr:=UAr_22.out.2.1
   have hcVA:=VA_22.out.2.2
   have hlVA:=VA_22.out.2.1
   have hcVAr:=VAr_22.out.2.2
   have hlVAr:=VAr_22.out.2.1
   go_wp2_with fail
   refine (Gm8 HAP.out.2.1 qa2 ia2 qa3 ia3 qc2 ic2 qc3 ic3 _ NZA_22.out.ints NZA_22.out.sns NUA_22.out.ints NUA_22.out.sns).mono ?_
   rintro e u22 ⟨rfl,b22⟩
   clear hcH hlH hcC hlC hcD hlD hcYA hlYA hcYAr hlYAr hcZA hlZA hcZAr hlZAr hcUA hlUA hcUAr hlUAr hcVA hlVA hcVAr hlVAr
   have B_23:=hid (bl B_22.out b22)
   have H_23:=hid (H_22.out.call b22)
   have C_23:=hid (C_22.out.call b22)
   have D_23:=hid (D_22.out.call b22)
   have YA_23:=hid (YA_22.out.call b22)
   have YAr_23:=hid (YAr_22.out.call b22)
   have ZA_23:=hid (ZA_22.out.call b22)
   have ZAr_23:=hid (ZAr_22.out.call b22)
   have UA_23:=hid (UA_22.out.call b22)
   have UAr_23:=hid (UAr_22.out.call b22)
   have VA_23:=hid (VA_22.out.call b22)
   have VAr_23:=hid (VAr_22.out.call b22)
   have RL_23:=hid (RL_22.out.call b22)
   have RM_23:=hid (RM_22.out.call b22)
   have WYA_23:=hid (WYA_22.out.call b22)
   have NYA_23:=hid (NYA_22.out.call b22)
   have WZA_23:=hid (WZA_22.out.call b22)
   have NZA_23:=hid (NZA_22.out.call b22)
   have WUA_23:=hid (WUA_22.out.call b22)
   have NUA_23:=hid (NUA_22.out.call b22)
   have WVA_23:=hid (WVA_22.out.call b22)
   have NVA_23:=hid (NVA_22.out.call b22)
   clear b22 B_22 H_22 C_22 D_22 YA_22 YAr_22 ZA_22 ZAr_22 UA_22 UAr_22 VA_22 VAr_22 RL_22 RM_22 WYA_22 NYA_22 WZA_22 NZA_22 WUA_22 NUA_22 WVA_22 NVA_22
   have hcH:=H_23.out.2.2
   have hlH:=H_23.out.2.1
   have hcC:=C_23.out.2.2
   have hlC:=C_23.out.2.1
   have hcD:=D_23.out.2.2
   have hlD:=D_23.out.2.1
   have hcYA:=YA_23.out.2.2
   have hlYA:=YA_23.out.2.1
   have hcYAr:=YAr_23.out.2.2
   have hlYAr:=YAr_23.out.2.1
   have hcZA:=ZA_23.out.2.2
   have hlZA:=ZA_23.out.2.1
   have hcZAr:=ZAr_23.out.2.2
   have hlZAr:=ZAr_23.out.2.1
   have hcUA:=UA_23.out.2.2
   have hlUA:=UA_23.out.2.1
   have hcUAr:=UAr_23.out.2.2
   have hlUAr:=UAr_23.out.2.1
   have hcVA:=VA_23.out.2.2
   have hlVA:=VA_23.out.2.1
   have hcVAr:=VAr_23.out.2.2
   have hlVAr:=VAr_23.out.2.1
   go_wp2_with fail
   refine (Cx SZ.out SV.out HAP.out.2.2.1 _ _ _ WZA_23.out WVA_23.out).mono ?_
   rintro e u23 ⟨rfl,b23⟩
   clear hcH hlH hcC hlC hcD hlD hcYA hlYA hcYAr hlYAr hcZA hlZA hcZAr hlZAr hcUA hlUA hcUAr hlUAr hcVA hlVA hcVAr hlVAr
   have B_24:=hid (bl B_23.out b23)
   have H_24:=hid (H_23.out.call b23)
   have C_24:=hid (C_23.out.call b23)
   have D_24:=hid (D_23.out.call b23)
   have YA_24:=hid (YA_23.out.call b23)
   have YAr_24:=hid (YAr_23.out.call b23)
   have ZA_24:=hid (ZA_23.out.call b23)
   have ZAr_24:=hid (ZAr_23.out.call b23)
   have UA_24:=hid (UA_23.out.call b23)
   have UAr_24:=hid (UAr_23.out.call b23)
   have VA_24:=hid (VA_23.out.call b23)
   have VAr_24:=hid (VAr_23.out.call b23)
   have RL_24:=hid (RL_23.out.call b23)
   have RM_24:=hid (RM_23.out.call b23)
   have WYA_24:=hid (WYA_23.out.call b23)
   have NYA_24:=hid (NYA_23.out.call b23)
   have WZA_24:=hid (WZA_23.out.call b23)
   have NZA_24:=hid (NZA_23.out.call b23)
   have WUA_24:=hid (WUA_23.out.call b23)
   have NUA_24:=hid (NUA_23.out.call b23)
   have WVA_24:=hid (WVA_23.out.call b23)
   have NVA_24:=hid (NVA_23.out.call b23)
   clear b23 B_23 H_23 C_23 D_23 YA_23 YAr_23 ZA_23 ZAr_23 UA_23 UAr_23 VA_23 VAr_23 RL_23 RM_23 WYA_23 NYA_23 WZA_23 NZA_23 WUA_23 NUA_23 WVA_23 NVA_23
   have hcH:=H_24.out.2.2
   have hlH:=H_24.out.2.1
   have hcC:=C_24.out.2.2
   have hlC:=C_24.out.2.1
   have hcD:=D_24.out.2.2
   have hlD:=D_24.out.2.1
   have hcYA:=YA_24.out.2.2
   have hlYA:=YA_24.out.2.1
   have hcYAr:=YAr_24.out.2.2
   have hlYAr:=YAr_24.out.2.1
   have hcZA:=ZA_24.out.2.2
   have hlZA:=ZA_24.out.2.1
   have hcZAr:=ZAr_24.out.2.2
   have hlZAr:=ZAr_24.out.2.1
   have hcUA:=UA_24.out.2.2
   have hlUA:=UA_24.out.2.1
   have hcUAr:=UAr_24.out.2.2
   have hlUAr:=UAr_24.out.2.1
   have hcVA:=VA_24.out.2.2
   have hlVA:=VA_24.out.2.1
   have hcVAr:=VAr_24.out.2.2
   have hlVAr:=VAr_24.out.2.1
   go_wp2_with fail
   refine (of_as SY.out q1 i2 d gad wad gcd wcd _ RY.out WYA_24.out (by rw [SY.out.at_];exact hil2) MD.out).mono ?_
   rintro e u24 ⟨f3,f3c,s3,rfl,hs,hO,b24⟩
   clear hcH hlH hcC hlC hcD hlD hcYA hlYA hcYAr hlYAr hcZA hlZA hcZAr hlZAr hcUA hlUA hcUAr hlUAr hcVA hlVA hcVAr hlVAr
   have B_25:=hid (bl B_24.out b24)
   have H_25:=hid (H_24.out.call b24)
   have C_25:=hid (C_24.out.call b24)
   have D_25:=hid (D_24.out.call b24)
   have YA_25:=hid (YA_24.out.call b24)
   have YAr_25:=hid (YAr_24.out.call b24)
   have ZA_25:=hid (ZA_24.out.call b24)
   have ZAr_25:=hid (ZAr_24.out.call b24)
   have UA_25:=hid (UA_24.out.call b24)
   have UAr_25:=hid (UAr_24.out.call b24)
   have VA_25:=hid (VA_24.out.call b24)
   have VAr_25:=hid (VAr_24.out.call b24)
   have RL_25:=hid (RL_24.out.call b24)
   have RM_25:=hid (RM_24.out.call b24)
   have WYA_25:=hid (WYA_24.out.call b24)
   have NYA_25:=hid (NYA_24.out.call b24)
   have WZA_25:=hid (WZA_24.out.call b24)
   have NZA_25:=hid (NZA_24.out.call b24)
   have WUA_25:=hid (WUA_24.out.call b24)
   have NUA_25:=hid (NUA_24.out.call b24)
   have WVA_25:=hid (WVA_24.out.call b24)
   have NVA_25:=hid (NVA_24.out.call b24)
   clear b24 B_24 H_24 C_24 D_24 YA_24 YAr_24 ZA_24 ZAr_24 UA_24 UAr_24 VA_24 VAr_24 RL_24 RM_24 WYA_24 NYA_24 WZA_24 NZA_24 WUA_24 NUA_24 WVA_24 NVA_24
   have HO1:=hid hs
   have RO1_25:=hid hO.row
   clear hs hO
   have hcH:=H_25.out.2.2
   have hlH:=H_25.out.2.1
   have hcC:=C_25.out.2.2
   have hlC:=C_25.out.2.1
   have hcD:=D_25.out.2.2
   have hlD:=D_25.out.2.1
   have hcYA:=YA_25.out.2.2
   have hlYA:=YA_25.out.2.1
   have hcYAr:=YAr_25.out.2.2
   have hlYAr:=YAr_25.out.2.1
   have hcZA:=ZA_25.out.2.2
   have hlZA:=ZA_25.out.2.1
   have hcZAr:=ZAr_25.out.2.2
   have hlZAr:=ZAr_25.out.2.1
   have hcUA:=UA_25.out.2.2
   have hlUA:=UA_25.out.2.1
   have hcUAr:=UAr_25.out.2.2
   have hlUAr:=UAr_25.out.2.1
   have hcVA:=VA_25.out.2.2
   have hlVA:=VA_25.out.2.1
   have hcVAr:=VAr_25.out.2.2
   have hlVAr:=VAr_25.out.2.1
   have E1:s3=sm:=(show Lm (Yb x i2 d) s3 from HAP.out.2.2.2.1 ▸ HO1.out).same HM.out
   subst E1
   go_wp2_with fail
   refine (At9 _ _ _ _ s3 s3 _ RO1_25.out RM_25.out).mono ?_
   rintro e u25 ⟨rfl,b25⟩
   rw [decide_eq_true rfl]
   clear hcH hlH hcC hlC hcD hlD hcYA hlYA hcYAr hlYAr hcZA hlZA hcZAr hlZAr hcUA hlUA hcUAr hlUAr hcVA hlVA hcVAr hlVAr
   have B_26:=hid (bl B_25.out b25)
   have H_26:=hid (H_25.out.call b25)
   have C_26:=hid (C_25.out.call b25)
   have D_26:=hid (D_25.out.call b25)
   have YA_26:=hid (YA_25.out.call b25)
   have YAr_26:=hid (YAr_25.out.call b25)
   have ZA_26:=hid (ZA_25.out.call b25)
   have ZAr_26:=hid (ZAr_25.out.call b25)
   have UA_26:=hid (UA_25.out.call b25)
   have UAr_26:=hid (UAr_25.out.call b25)
   have VA_26:=hid (VA_25.out.call b25)
   have VAr_26:=hid (VAr_25.out.call b25)
   have RL_26:=hid (RL_25.out.call b25)
   have RM_26:=hid (RM_25.out.call b25)
   have WYA_26:=hid (WYA_25.out.call b25)
   have NYA_26:=hid (NYA_25.out.call b25)
   have WZA_26:=hid (WZA_25.out.call b25)
   have NZA_26:=hid (NZA_25.out.call b25)
   have WUA_26:=hid (WUA_25.out.call b25)
   have NUA_26:=hid (NUA_25.out.call b25)
   have WVA_26:=hid (WVA_25.out.call b25)
   have NVA_26:=hid (NVA_25.out.call b25)
   have RO1_26:=hid (RO1_25.out.call b25)
   clear b25 B_25 H_25 C_25 D_25 YA_25 YAr_25 ZA_25 ZAr_25 UA_25 UAr_25 VA_25 VAr_25 RL_25 RM_25 WYA_25 NYA_25 WZA_25 NZA_25 WUA_25 NUA_25 WVA_25 NVA_25 RO1_25
   have hcH:=H_26.out.2.2
   have hlH:=H_26.out.2.1
   have hcC:=C_26.out.2.2
   have hlC:=C_26.out.2.1
   have hcD:=D_26.out.2.2
   have hlD:=D_26.out.2.1
   have hcYA:=YA_26.out.2.2
   have hlYA:=YA_26.out.2.1
   have hcYAr:=YAr_26.out.2.2
   have hlYAr:=YAr_26.out.2.1
   have hcZA:=ZA_26.out.2.2
   have hlZA:=ZA_26.out.2.1
   have hcZAr:=ZAr_26.out.2.2
   have hlZAr:=ZAr_26.out.2.1
   have hcUA:=UA_26.out.2.2
   have hlUA:=UA_26.out.2.1
   have hcUAr:=UAr_26.out.2.2
   have hlUAr:=UAr_26.out.2.1
   have hcVA:=VA_26.out.2.2
   have hlVA:=VA_26.out.2.1
   have hcVAr:=VAr_26.out.2.2
   have hlVAr:=VAr_26.out.2.1
   go_wp2_with fail
   refine (of_as SU.out q3 i c gac wac gcc wcc _ RU.out WUA_26.out (by rw [SU.out.at_];exact hil) MC.out).mono ?_
   rintro e u26 ⟨f4,f4c,s4,rfl,hs,hO,b26⟩
   clear hcH hlH hcC hlC hcD hlD hcYA hlYA hcYAr hlYAr hcZA hlZA hcZAr hlZAr hcUA hlUA hcUAr hlUAr hcVA hlVA hcVAr hlVAr
   have B_27:=hid (bl B_26.out b26)
   have H_27:=hid (H_26.out.call b26)
   have C_27:=hid (C_26.out.call b26)
   have D_27:=hid (D_26.out.call b26)
   have YA_27:=hid (YA_26.out.call b26)
   have YAr_27:=hid (YAr_26.out.call b26)
   have ZA_27:=hid (ZA_26.out.call b26)
   have ZAr_27:=hid (ZAr_26.out.call b26)
   have UA_27:=hid (UA_26.out.call b26)
   have UAr_27:=hid (UAr_26.out.call b26)
   have VA_27:=hid (VA_26.out.call b26)
   have VAr_27:=hid (VAr_26.out.call b26)
   have RL_27:=hid (RL_26.out.call b26)
   have RM_27:=hid (RM_26.out.call b26)
   have WYA_27:=hid (WYA_26.out.call b26)
   have NYA_27:=hid (NYA_26.out.call b26)
   have WZA_27:=hid (WZA_26.out.call b26)
   have NZA_27:=hid (NZA_26.out.call b26)
   have WUA_27:=hid (WUA_26.out.call b26)
   have NUA_27:=hid (NUA_26.out.call b26)
   have WVA_27:=hid (WVA_26.out.call b26)
   have NVA_27:=hid (NVA_26.out.call b26)
   have RO1_27:=hid (RO1_26.out.call b26)
   clear b26 B_26 H_26 C_26 D_26 YA_26 YAr_26 ZA_26 ZAr_26 UA_26 UAr_26 VA_26 VAr_26 RL_26 RM_26 WYA_26 NYA_26 WZA_26 NZA_26 WUA_26 NUA_26 WVA_26 NVA_26 RO1_26
   have HO2:=hid hs
   have RO2_27:=hid hO.row
   clear hs hO
   have hcH:=H_27.out.2.2
   have hlH:=H_27.out.2.1
   have hcC:=C_27.out.2.2
   have hlC:=C_27.out.2.1
   have hcD:=D_27.out.2.2
   have hlD:=D_27.out.2.1
   have hcYA:=YA_27.out.2.2
   have hlYA:=YA_27.out.2.1
   have hcYAr:=YAr_27.out.2.2
   have hlYAr:=YAr_27.out.2.1
   have hcZA:=ZA_27.out.2.2
   have hlZA:=ZA_27.out.2.1
   have hcZAr:=ZAr_27.out.2.2
   have hlZAr:=ZAr_27.out.2.1
   have hcUA:=UA_27.out.2.2
   have hlUA:=UA_27.out.2.1
   have hcUAr:=UAr_27.out.2.2
   have hlUAr:=UAr_27.out.2.1
   have hcVA:=VA_27.out.2.2
   have hlVA:=VA_27.out.2.1
   have hcVAr:=VAr_27.out.2.2
   have hlVAr:=VAr_27.out.2.1
   have E2:s4=sl:=(show Lm (Yb x i c) s4 from HAP.out.2.2.2.2 ▸ HO2.out).same HL.out
   subst E2
   go_wp2_with fail
   refine (At9 _ _ _ _ s4 s4 _ RO2_27.out RL_27.out).mono ?_
   rintro e u27 ⟨rfl,b27⟩
   rw [decide_eq_true rfl]
   clear hcH hlH hcC hlC hcD hlD hcYA hlYA hcYAr hlYAr hcZA hlZA hcZAr hlZAr hcUA hlUA hcUAr hlUAr hcVA hlVA hcVAr hlVAr
   have B_28:=hid (bl B_27.out b27)
   have H_28:=hid (H_27.out.call b27)
   have C_28:=hid (C_27.out.call b27)
   have D_28:=hid (D_27.out.call b27)
   have YA_28:=hid (YA_27.out.call b27)
   have YAr_28:=hid (YAr_27.out.call b27)
   have ZA_28:=hid (ZA_27.out.call b27)
   have ZAr_28:=hid (ZAr_27.out.call b27)
   have UA_28:=hid (UA_27.out.call b27)
   have UAr_28:=hid (UAr_27.out.call b27)
   have VA_28:=hid (VA_27.out.call b27)
   have VAr_28:=hid (VAr_27.out.call b27)
   have RL_28:=hid (RL_27.out.call b27)
   have RM_28:=hid (RM_27.out.call b27)
   have WYA_28:=hid (WYA_27.out.call b27)
   have NYA_28:=hid (NYA_27.out.call b27)
   have WZA_28:=hid (WZA_27.out.call b27)
   have NZA_28:=hid (NZA_27.out.call b27)
   have WUA_28:=hid (WUA_27.out.call b27)
   have NUA_28:=hid (NUA_27.out.call b27)
   have WVA_28:=hid (WVA_27.out.call b27)
   have NVA_28:=hid (NVA_27.out.call b27)
   have RO1_28:=hid (RO1_27.out.call b27)
   have RO2_28:=hid (RO2_27.out.call b27)
   clear b27 B_27 H_27 C_27 D_27 YA_27 YAr_27 ZA_27 ZAr_27 UA_27 UAr_27 VA_27 VAr_27 RL_27 RM_27 WYA_27 NYA_27 WZA_27 NZA_27 WUA_27 NUA_27 WVA_27 NVA_27 RO1_27 RO2_27
   go_wp2_with fail
   go_ret
   exact ⟨rfl,B_28.out⟩
theorem walk_footApart (x:Wd) (p:Wp) (a:Int) (c:Cm) (gac wac:Option Addr) (gcc wcc:Nat) (b2:Int) (d:Cm) (gad wad:Option Addr) (gcd wcd:Nat) (w:World) (ha:(Lit.int .u8 a).wf=true) (hb:(Lit.int .u8 b2).wf=true) (h:Ab w p x) (hgc:Ae w gac c.gives) (hwc:Ae w wac c.wants) (_:c.Wf) (hgd:Ae w gad d.gives) (hwd:Ae w wad d.wants) (_:d.Wf):Calls prog 4 #[.agg (wC x p),.int .u8 a,.agg (cC c gac gcc wac wcc),.int .u8 b2,.agg (cC d gad gcd wad wcd)] w fun e w'=>e=.returned (.bool true)∧Below w.heap.size w w':=by
 cases hf:Ba x
 ·exact footApart_no0 x p a b2 c d gac wac gad wad gcc wcc gcd wcd w h hgc hwc hgd hwd hf
 cases hfwc:Dz c
 ·exact footApart_no1 x p a b2 c d gac wac gad wad gcc wcc gcd wcd w h hgc hwc hgd hwd hf hfwc
 cases hmyc:Ak c
 ·exact footApart_no2 x p a b2 c d gac wac gad wad gcc wcc gcd wcd w h hgc hwc hgd hwd hf hfwc hmyc
 cases hfwd:Dz d
 ·exact footApart_no3 x p a b2 c d gac wac gad wad gcc wcc gcd wcd w h hgc hwc hgd hwd hf hfwc hmyc hfwd
 cases hmyd:Ak d
 ·exact footApart_no4 x p a b2 c d gac wac gad wad gcc wcc gcd wcd w h hgc hwc hgd hwd hf hfwc hmyc hfwd hmyd
 have h1:=Ed ha
 have h2:=Ed hb
 obtain ⟨m1,rfl⟩:∃m:Nat,a=m:=⟨a.toNat,by omega⟩
 obtain ⟨m2,rfl⟩:∃m:Nat,b2=m:=⟨b2.toNat,by omega⟩
 exact footApart_go x p m1 _ m2 _ c d gac wac gad wad gcc wcc gcd wcd (by omega) rfl (by omega) rfl w h hgc hwc hgd hwd hf hfwc hmyc hfwd hmyd
theorem lifted_footApart (os:Os) (started:os.Started) (H:Type) (enc:TypeId × Value→H) :
 ReturnsInHanded {} Tryz.checked os 4 .any (Rows.footApartSpec.pre6 enc prog Tryz.f4 Rows.footApartRow.domain false) (Rows.footApartSpec.post enc prog Tryz.f4 false true false false):=by
 refine returnsInHanded_of_change (C:=Tryz.checked) (by kernel_rfl) started (by kernel_rfl) func4
  (ChangeSpec.witness6 (enc:=enc) (C:=Tryz.checked) false ⟨#[],#[.agg zC,.int .u8 0,.agg #[.int .i64 0,.int .i64 0,.int .i64 0,.int .i64 0,.int .i64 0,.slice none 0 0,.int .i64 0,.slice none 0 0,.int .i64 0],.int .u8 0,.agg #[.int .i64 0,.int .i64 0,.int .i64 0,.int .i64 0,.int .i64 0,.slice none 0 0,.int .i64 0,.slice none 0 0,.int .i64 0]],[]⟩ 8 (by kernel_rfl) (by kernel_rfl) (by kernel_rfl) (by kernel_rfl)) ?_
 intro W base args ds gs before hval0 hW hcnd _
 have hval:∀(j:Nat) t v,Tryz.f4.params[j]?=some t→args[j]?=some v→Value.okWide prog W .any base t v:=hval0
 have hW':=hW
 obtain ⟨p,q,hA0,hV,rfl,hfz,hnd⟩:=hW
 have hA:DataW.TrodAll enc prog W 0 (fun _=>true) true Tryz.f4.params.toList args.toList ds p:=hA0
 rw [Tryz.params4] at hA hval
 obtain ⟨v0,vs0,d0,ds0,p0,q0,hargs,rfl,rfl,h0,r0⟩:=trodAll_cons hA
 obtain ⟨v1,vs1,d1,ds1,p1,q1,rfl,rfl,rfl,h1,r1⟩:=trodAll_cons r0
 obtain ⟨v2,vs2,d2,ds2,p2,q2,rfl,rfl,rfl,h2,r2⟩:=trodAll_cons r1
 obtain ⟨v3,vs3,d3,ds3,p3,q3,rfl,rfl,rfl,h3,r3⟩:=trodAll_cons r2
 obtain ⟨v4,vs4,d4,ds4,p4,q4,rfl,rfl,rfl,h4,r4⟩:=trodAll_cons r3
 obtain ⟨rfl,rfl,rfl⟩:=trodAll_nil r4
 obtain rfl:args=#[v0,v1,v2,v3,v4]:=by cases args;simp_all
 obtain ⟨rfl,rfl⟩:=trodVars_none hV
 obtain ⟨wx0,wp0,rfl,m0⟩:=Qz (hval 0 29 v0 rfl rfl) h0
 obtain ⟨a1,rfl,rfl,rfl,w1⟩:=open_int underlying5 (hval 1 5 v1 rfl rfl) h1
 obtain ⟨c2,ga2,wa2,gc2,wc2,rfl,ma2,mb2,mg2⟩:=Ak3 (hval 2 31 v2 rfl rfl) h2
 obtain ⟨a3,rfl,rfl,rfl,w3⟩:=open_int underlying5 (hval 3 5 v3 rfl rfl) h3
 obtain ⟨c4,ga4,wa4,gc4,wc4,rfl,ma4,mb4,mg4⟩:=Ak3 (hval 4 31 v4 rfl rfl) h4
 clear hA0 hval0
 simp only [List.append_nil] at hW'
 refine (walk_footApart wx0 wp0 a1 c2 ga2 wa2 gc2 wc2 a3 c4 ga4 wa4 gc4 wc4 W w1 w3 m0 ma2 mb2 mg2 ma4 mb4 mg4).mono fun e W' ⟨he,hg⟩=>?_
 subst he
 exact ⟨_,rfl,Iy (by kernel_rfl) rfl (by rw [Tryz.params4];decide +kernel) rfl rfl underlying4 hW' hg⟩
theorem proved_footApart:Rows.FootApartSaid :=
 OpenClaim.holds_of_wide 4 Tryz.f4 rfl rfl rfl rfl rfl rfl rfl ⟨rfl,rfl,rfl,rfl,rfl⟩ rfl rfl rfl rfl rfl (by kernel_rfl) func4 (by kernel_rfl)
  (of_decide_eq_true (by kernel_rfl)) (by unfold Func.isWrapper;first|(rw [if_pos (by decide +kernel)];kernel_rfl)|(rw [if_neg (by decide +kernel)];exact ⟨rfl,rfl⟩))
  (fun os started H enc _=>lifted_footApart os started H enc)
#print axioms proved_footApart
end Go.Proofs.YtenpcndoilcjcaaGreat
