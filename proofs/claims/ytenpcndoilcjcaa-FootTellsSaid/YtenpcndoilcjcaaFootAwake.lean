/- What the laws of foot begin with: answers that the document fixes; whether a world fits. -/
import Derived.Test.YtenpcndoilcjcaaGFootC
import Derived.Deep.DeepCutAuto
namespace Go.Proofs.Ytenpcndoilcjcaa
open Go.ChangeShapes Go.WideShapes Go.ChangeAt Go.RowKit Go.Proofs.Try
open Lib (hid)
set_option linter.unusedVariables false
set_option maxRecDepth 100000
open Go.RowKit Go
def aD16:Ds:=⟨[⟨1,-1,-1,-1⟩,⟨-1,-1,0,-1⟩],[0,0],[5,2],[0],[false],4,2,1⟩
def aP16 (n:Nat):Dp:=⟨some ⟨n,0,none⟩,2,some ⟨n+1,0,none⟩,2,some ⟨n+1+1,0,none⟩,2,some ⟨n+1+1+1,0,none⟩,1,some ⟨n+1+1+1+1,0,none⟩,1⟩
def aN16:Wd:=newW aD16
def aX16:Wd:=⟨aN16.d,aN16.at_,aN16.coins,[⟨1,0⟩]⟩
theorem aN16_right:Ai aN16=true:=by decide +kernel
theorem aX16_right:Ai aX16=true:=by decide +kernel
theorem aw16_f1:Fa8 aN16 0 (⟨9,0,0,0,0,[],0,[],0⟩:Cm)=[⟨0,0⟩,⟨1,0⟩]:=by decide +kernel
theorem aw16_f2:Fa8 aN16 0 (⟨2,0,0,0,1,[],0,[],0⟩:Cm)=[⟨0,0⟩,⟨0,1⟩,⟨1,0⟩,⟨1,1⟩]:=by decide +kernel
theorem aw16_f3:Fa8 aN16 0 (⟨1,1,0,0,0,[],0,[],0⟩:Cm)=[⟨0,0⟩,⟨1,0⟩]:=by decide +kernel
theorem aw16_f4:Fa8 aN16 0 (⟨7,0,0,0,7,[],0,[],0⟩:Cm)=[⟨0,0⟩,⟨1,0⟩]:=by decide +kernel
theorem aw16_c1:Hk8 [⟨0,0⟩,⟨1,0⟩] aN16 aX16=true:=by decide +kernel
theorem aw16_c2:Hk8 [⟨0,0⟩] aN16 aX16=false:=by decide +kernel
theorem aw16_c3:Hk8 [] aN16 aN16=true:=by decide +kernel
theorem row16 {α:Type} {k:Nat} {enc:α→List Value} {W:World} {g:Nat} {t:TypeId} {cs:Array Value} {xs:List α} (h:Blk W g t cs) (hl:xs.length≤maxLen) (hc:∀i (hi:i<xs.length) j,j<k→cs[i*k+j]?=(enc xs[i])[j]?):Ar k enc W (some ⟨g,0,none⟩) xs :=
 ⟨hl,.inr ⟨g,0,rfl,h.lt,fun i hi j hj=>by rw [Nat.zero_add,h.cell];exact hc i hi j hj⟩⟩
theorem pls16 {W:World} {g:Nat} {cs:Array Value} (l:List Pl) (h:Blk W g 47 cs) (hl:l.length≤maxLen) (hcs:cs=(l.flatMap plC).toArray):Au W (some ⟨g,0,none⟩) l :=
 row16 h hl (fun i hi j hj=>by rw [hcs];simpa using Ji Ni l i hi j hj)
theorem pls_one {W:World} {a:Option Addr} {x y:Pl} (h:Au W a [x,y]):Au W a [x]:=by
 obtain ⟨hl,h⟩:=h
 refine ⟨by simp [maxLen],h.imp (fun e=>by cases e) ?_⟩
 rintro ⟨b,off,rfl,hb,hc⟩
 refine ⟨b,off,rfl,hb,fun i hi j hj=>?_⟩
 obtain rfl:i=0:=by simpa using hi
 exact hc 0 (by simp) j hj
theorem keysl_info:(prog.info? 47).map (fun i=>(i.zero,i.size,i.bytes))=some (some (.agg #[.int .i64 0,.int .i64 0]),2,16):=by kernel_rfl
theorem cut_me (g:Nat) (W:World):(Instr.slice 32 (.slice (some ⟨g,0,none⟩) 2 2) none (some (.int .i64 1)) none).run prog W=.ok (.slice (some ⟨g,0,none⟩) 1 2) W:=by
 obtain ⟨i0,hi0,hz0,hz1,hz2⟩:=info_parts keysl_info
 simp [Instr.slice,run_underlying underlying32,Instr.sliceBounds,run_sliceBound,sizeOf,typeInfo,hi0]
 try simp [Addr.add]
theorem aD16_at {W:World} {n:Nat} (h0:Blk W n 50 #[.int .i64 1,.int .i64 (-1),.int .i64 (-1),.int .i64 (-1),.int .i64 (-1),.int .i64 (-1),.int .i64 0,.int .i64 (-1)]) (h1:Blk W (n+1) 3 #[.int .i64 0,.int .i64 0]) (h2:Blk W (n+1+1) 3 #[.int .i64 5,.int .i64 2])
 (h3:Blk W (n+1+1+1) 3 #[.int .i64 0]) (h4:Blk W (n+1+1+1+1) 4 #[.bool false]):Ce W (aP16 n) aD16:=by
 refine ⟨row16 h0 (by simp [aD16,maxLen]) ?_,Av.2 (row16 h1 (by simp [aD16,maxLen]) ?_),Av.2 (row16 h2 (by simp [aD16,maxLen]) ?_),Av.2 (row16 h3 (by simp [aD16,maxLen]) ?_),row16 h4 (by simp [aD16,maxLen]) ?_⟩
 ·intro i hi j hj
  obtain rfl|rfl:i=0∨i=1:=by simp [aD16] at hi;omega
  all_goals obtain rfl|rfl|rfl|rfl:j=0∨j=1∨j=2∨j=3:=by omega
  all_goals rfl
 ·intro i hi j hj
  obtain rfl:j=0:=by omega
  obtain rfl|rfl:i=0∨i=1:=by simp [aD16] at hi;omega
  all_goals rfl
 ·intro i hi j hj
  obtain rfl:j=0:=by omega
  obtain rfl|rfl:i=0∨i=1:=by simp [aD16] at hi;omega
  all_goals rfl
 all_goals
  intro i hi j hj
  obtain rfl:j=0:=by omega
  obtain rfl:i=0:=by simp [aD16] at hi;omega
  rfl
theorem aw16_start (w:World):Ce (((((w.alloc (.cells #[.int .i64 1,.int .i64 (-1),.int .i64 (-1),.int .i64 (-1),.int .i64 (-1),.int .i64 (-1),.int .i64 0,.int .i64 (-1)] 50)).alloc (.cells #[.int .i64 0,.int .i64 0] 3)).alloc (.cells #[.int .i64 5,.int .i64 2] 3)).alloc (.cells #[.int .i64 0] 3)).alloc (.cells #[.bool false] 4)) (aP16 w.heap.size) aD16∧Below w.heap.size w (((((w.alloc (.cells #[.int .i64 1,.int .i64 (-1),.int .i64 (-1),.int .i64 (-1),.int .i64 (-1),.int .i64 (-1),.int .i64 0,.int .i64 (-1)] 50)).alloc (.cells #[.int .i64 0,.int .i64 0] 3)).alloc (.cells #[.int .i64 5,.int .i64 2] 3)).alloc (.cells #[.int .i64 0] 3)).alloc (.cells #[.bool false] 4)):=by
 have b0:=Blk.newn w 50 #[.int .i64 1,.int .i64 (-1),.int .i64 (-1),.int .i64 (-1),.int .i64 (-1),.int .i64 (-1),.int .i64 0,.int .i64 (-1)] (n:=w.heap.size) rfl
 have b1:=Blk.newn (w.alloc (.cells #[.int .i64 1,.int .i64 (-1),.int .i64 (-1),.int .i64 (-1),.int .i64 (-1),.int .i64 (-1),.int .i64 0,.int .i64 (-1)] 50)) 3 #[.int .i64 0,.int .i64 0] (n:=w.heap.size+1) (by simp)
 have b2:=Blk.newn ((w.alloc (.cells #[.int .i64 1,.int .i64 (-1),.int .i64 (-1),.int .i64 (-1),.int .i64 (-1),.int .i64 (-1),.int .i64 0,.int .i64 (-1)] 50)).alloc (.cells #[.int .i64 0,.int .i64 0] 3)) 3 #[.int .i64 5,.int .i64 2] (n:=w.heap.size+1+1) (by simp)
 have b3:=Blk.newn (((w.alloc (.cells #[.int .i64 1,.int .i64 (-1),.int .i64 (-1),.int .i64 (-1),.int .i64 (-1),.int .i64 (-1),.int .i64 0,.int .i64 (-1)] 50)).alloc (.cells #[.int .i64 0,.int .i64 0] 3)).alloc (.cells #[.int .i64 5,.int .i64 2] 3)) 3 #[.int .i64 0] (n:=w.heap.size+1+1+1) (by simp)
 have b4:=Blk.newn ((((w.alloc (.cells #[.int .i64 1,.int .i64 (-1),.int .i64 (-1),.int .i64 (-1),.int .i64 (-1),.int .i64 (-1),.int .i64 0,.int .i64 (-1)] 50)).alloc (.cells #[.int .i64 0,.int .i64 0] 3)).alloc (.cells #[.int .i64 5,.int .i64 2] 3)).alloc (.cells #[.int .i64 0] 3)) 4 #[.bool false] (n:=w.heap.size+1+1+1+1) (by simp)
 exact ⟨aD16_at ((((b0.alloc _).alloc _).alloc _).alloc _) (((b1.alloc _).alloc _).alloc _) ((b2.alloc _).alloc _) (b3.alloc _) b4,((((b_a _).alloc (by simp) _).alloc (by simp;omega) _).alloc (by simp;omega) _).alloc (by simp;omega) _⟩
theorem aw16_new (n:Nat) (W:World) (h:Ce W (aP16 n) aD16):Calls prog 15 #[.agg #[.slice (some ⟨n,0,none⟩) 2 2,.slice (some ⟨n+1,0,none⟩) 2 2,.slice (some ⟨n+1+1,0,none⟩) 2 2,.slice (some ⟨n+1+1+1,0,none⟩) 1 1,.slice (some ⟨n+1+1+1+1,0,none⟩) 1 1,.int .i64 4,.int .i64 2,.int .i64 1]] W fun e w'=>∃q1:Wp,e=.returned (.agg #[.slice q1.d.ex 2 q1.d.exc,.slice q1.d.pl 2 q1.d.plc,.slice q1.d.co 2 q1.d.coc,.slice q1.d.it 1 q1.d.itc,.slice q1.d.bo 1 q1.d.boc,.int .i64 4,.int .i64 2,.int .i64 1,.slice q1.at_ 2 q1.atc,.slice q1.co 2 q1.coc,.slice q1.wh 1 q1.whc])∧Ab w' q1 aN16∧Below W.heap.size W w':=by
 refine (Ap6 aD16 (aP16 n) W h (by decide +kernel)).mono ?_
 rintro e w' ⟨x,q,rfl,rfl,hw,hb⟩
 exact ⟨q,rfl,hw,hb⟩
theorem aw16_copy (q1:Wp) (W:World) (h:Ab W q1 aN16):Calls prog 16 #[.agg #[.slice q1.d.ex 2 q1.d.exc,.slice q1.d.pl 2 q1.d.plc,.slice q1.d.co 2 q1.d.coc,.slice q1.d.it 1 q1.d.itc,.slice q1.d.bo 1 q1.d.boc,.int .i64 4,.int .i64 2,.int .i64 1,.slice q1.at_ 2 q1.atc,.slice q1.co 2 q1.coc,.slice q1.wh 1 q1.whc]] W fun e w'=>∃(qd:Dp) (a k wh:Option Addr) (ac kc whc:Nat),e=.returned (.agg #[.slice qd.ex 2 qd.exc,.slice qd.pl 2 qd.plc,.slice qd.co 2 qd.coc,.slice qd.it 1 qd.itc,.slice qd.bo 1 qd.boc,.int .i64 4,.int .i64 2,.int .i64 1,.slice a 2 ac,.slice k 2 kc,.slice wh 1 whc])∧Jh W.heap.size w' q1.d ⟨qd,a,ac,k,kc,wh,whc⟩ aN16∧Below W.heap.size W w':=by
 refine (Aq3 aN16 q1 W h (by unfold FewW FewD;decide +kernel)).mono ?_
 rintro e w' ⟨⟨d,a,ac,k,kc,wh,whc⟩,rfl,hw,hb,hn⟩
 exact ⟨d,a,k,wh,ac,kc,whc,rfl,hn,hb⟩
theorem aw16_of {S:List Pl} (c:Cm) (q0:Wp) (W:World) (h:Ab W q0 aN16) (hd:0≤c.dir∧c.dir<4) (hf:Fa8 aN16 0 c=S) :
 Calls prog 11 #[.agg (wC aN16 q0),.int .i64 ((0:Nat):Int),.agg (cC c none 0 none 0)] W fun e w'=>∃(a:Option Addr) (cp:Nat),e=.returned (.slice a S.length cp)∧Au w' a S∧Below W.heap.size W w':=by
 refine (of_any aN16 q0 0 c none none 0 0 W aN16_right h (by decide +kernel) hd).mono ?_
 rintro e w' ⟨fb,cp,s,rfl,hs,hO,hb⟩
 obtain rfl:s=S:=(hs.same (foot_sorted aN16 0 c)).trans hf
 exact ⟨fb,cp,rfl,hO.row,hb⟩
theorem aw16_of1 (q0:Wp) (W:World) (h:Ab W q0 aN16):Calls prog 11 #[.agg #[.slice q0.d.ex 2 q0.d.exc,.slice q0.d.pl 2 q0.d.plc,.slice q0.d.co 2 q0.d.coc,.slice q0.d.it 1 q0.d.itc,.slice q0.d.bo 1 q0.d.boc,.int .i64 4,.int .i64 2,.int .i64 1,.slice q0.at_ 2 q0.atc,.slice q0.co 2 q0.coc,.slice q0.wh 1 q0.whc],.int .i64 0,.agg #[.int .i64 9,.int .i64 0,.int .i64 0,.int .i64 0,.int .i64 0,.slice none 0 0,.int .i64 0,.slice none 0 0,.int .i64 0]] W fun e w'=>∃(a:Option Addr) (cp:Nat),e=.returned (.slice a 2 cp)∧Au w' a [⟨0,0⟩,⟨1,0⟩]∧Below W.heap.size W w' :=
 aw16_of (⟨9,0,0,0,0,[],0,[],0⟩:Cm) q0 W h (by decide) aw16_f1
theorem aw16_of2 (q0:Wp) (W:World) (h:Ab W q0 aN16):Calls prog 11 #[.agg #[.slice q0.d.ex 2 q0.d.exc,.slice q0.d.pl 2 q0.d.plc,.slice q0.d.co 2 q0.d.coc,.slice q0.d.it 1 q0.d.itc,.slice q0.d.bo 1 q0.d.boc,.int .i64 4,.int .i64 2,.int .i64 1,.slice q0.at_ 2 q0.atc,.slice q0.co 2 q0.coc,.slice q0.wh 1 q0.whc],.int .i64 0,.agg #[.int .i64 2,.int .i64 0,.int .i64 0,.int .i64 0,.int .i64 1,.slice none 0 0,.int .i64 0,.slice none 0 0,.int .i64 0]] W fun e w'=>∃(a:Option Addr) (cp:Nat),e=.returned (.slice a 4 cp)∧Au w' a [⟨0,0⟩,⟨0,1⟩,⟨1,0⟩,⟨1,1⟩]∧Below W.heap.size W w' :=
 aw16_of (⟨2,0,0,0,1,[],0,[],0⟩:Cm) q0 W h (by decide) aw16_f2
theorem aw16_of3 (q0:Wp) (W:World) (h:Ab W q0 aN16):Calls prog 11 #[.agg #[.slice q0.d.ex 2 q0.d.exc,.slice q0.d.pl 2 q0.d.plc,.slice q0.d.co 2 q0.d.coc,.slice q0.d.it 1 q0.d.itc,.slice q0.d.bo 1 q0.d.boc,.int .i64 4,.int .i64 2,.int .i64 1,.slice q0.at_ 2 q0.atc,.slice q0.co 2 q0.coc,.slice q0.wh 1 q0.whc],.int .i64 0,.agg #[.int .i64 1,.int .i64 1,.int .i64 0,.int .i64 0,.int .i64 0,.slice none 0 0,.int .i64 0,.slice none 0 0,.int .i64 0]] W fun e w'=>∃(a:Option Addr) (cp:Nat),e=.returned (.slice a 2 cp)∧Au w' a [⟨0,0⟩,⟨1,0⟩]∧Below W.heap.size W w' :=
 aw16_of (⟨1,1,0,0,0,[],0,[],0⟩:Cm) q0 W h (by decide) aw16_f3
theorem aw16_of4 (q0:Wp) (W:World) (h:Ab W q0 aN16):Calls prog 11 #[.agg #[.slice q0.d.ex 2 q0.d.exc,.slice q0.d.pl 2 q0.d.plc,.slice q0.d.co 2 q0.d.coc,.slice q0.d.it 1 q0.d.itc,.slice q0.d.bo 1 q0.d.boc,.int .i64 4,.int .i64 2,.int .i64 1,.slice q0.at_ 2 q0.atc,.slice q0.co 2 q0.coc,.slice q0.wh 1 q0.whc],.int .i64 0,.agg #[.int .i64 7,.int .i64 0,.int .i64 0,.int .i64 0,.int .i64 7,.slice none 0 0,.int .i64 0,.slice none 0 0,.int .i64 0]] W fun e w'=>∃(a:Option Addr) (cp:Nat),e=.returned (.slice a 2 cp)∧Au w' a [⟨0,0⟩,⟨1,0⟩]∧Below W.heap.size W w' :=
 aw16_of (⟨7,0,0,0,7,[],0,[],0⟩:Cm) q0 W h (by decide) aw16_f4
theorem aw16_same2 (a b:Option Addr) (ca cb:Nat) (W:World) (h1:Au W a [⟨0,0⟩,⟨1,0⟩]) (h2:Au W b [⟨0,0⟩,⟨1,0⟩]):Calls prog 10 #[.slice a 2 ca,.slice b 2 cb] W fun e w'=>e=.returned (.bool true)∧Below W.heap.size W w' :=
 At9 a b ca cb [⟨0,0⟩,⟨1,0⟩] [⟨0,0⟩,⟨1,0⟩] W h1 h2
theorem aw16_same4 (a b:Option Addr) (ca cb:Nat) (W:World) (h1:Au W a [⟨0,0⟩,⟨0,1⟩,⟨1,0⟩,⟨1,1⟩]) (h2:Au W b [⟨0,0⟩,⟨0,1⟩,⟨1,0⟩,⟨1,1⟩]):Calls prog 10 #[.slice a 4 ca,.slice b 4 cb] W fun e w'=>e=.returned (.bool true)∧Below W.heap.size W w' :=
 At9 a b ca cb [⟨0,0⟩,⟨0,1⟩,⟨1,0⟩,⟨1,1⟩] [⟨0,0⟩,⟨0,1⟩,⟨1,0⟩,⟨1,1⟩] W h1 h2
theorem aw16_cov1 (m:Option Addr) (cap:Nat) (q1:Wp) (qd:Dp) (a k wh:Option Addr) (ac kc whc:Nat) (W:World) (h1:Ab W q1 aN16) (h2:Ab W ⟨qd,a,ac,k,kc,wh,whc⟩ aX16) (hm:Au W m [⟨0,0⟩,⟨1,0⟩]):Calls prog 13 #[.slice m 2 cap,.agg #[.slice q1.d.ex 2 q1.d.exc,.slice q1.d.pl 2 q1.d.plc,.slice q1.d.co 2 q1.d.coc,.slice q1.d.it 1 q1.d.itc,.slice q1.d.bo 1 q1.d.boc,.int .i64 4,.int .i64 2,.int .i64 1,.slice q1.at_ 2 q1.atc,.slice q1.co 2 q1.coc,.slice q1.wh 1 q1.whc],.agg #[.slice qd.ex 2 qd.exc,.slice qd.pl 2 qd.plc,.slice qd.co 2 qd.coc,.slice qd.it 1 qd.itc,.slice qd.bo 1 qd.boc,.int .i64 4,.int .i64 2,.int .i64 1,.slice a 2 ac,.slice k 2 kc,.slice wh 1 whc]] W fun e w'=>e=.returned (.bool true)∧Below W.heap.size W w':=by
 have:=covers_any aN16 aX16 q1 ⟨qd,a,ac,k,kc,wh,whc⟩ m cap [⟨0,0⟩,⟨1,0⟩] W aN16_right aX16_right rfl rfl (by decide +kernel) h1 h2 hm
 rw [aw16_c1] at this
 exact this
theorem aw16_cov2 (m:Option Addr) (cap:Nat) (q1:Wp) (qd:Dp) (a k wh:Option Addr) (ac kc whc:Nat) (W:World) (h1:Ab W q1 aN16) (h2:Ab W ⟨qd,a,ac,k,kc,wh,whc⟩ aX16) (hm:Au W m [⟨0,0⟩]):Calls prog 13 #[.slice m 1 cap,.agg #[.slice q1.d.ex 2 q1.d.exc,.slice q1.d.pl 2 q1.d.plc,.slice q1.d.co 2 q1.d.coc,.slice q1.d.it 1 q1.d.itc,.slice q1.d.bo 1 q1.d.boc,.int .i64 4,.int .i64 2,.int .i64 1,.slice q1.at_ 2 q1.atc,.slice q1.co 2 q1.coc,.slice q1.wh 1 q1.whc],.agg #[.slice qd.ex 2 qd.exc,.slice qd.pl 2 qd.plc,.slice qd.co 2 qd.coc,.slice qd.it 1 qd.itc,.slice qd.bo 1 qd.boc,.int .i64 4,.int .i64 2,.int .i64 1,.slice a 2 ac,.slice k 2 kc,.slice wh 1 whc]] W fun e w'=>e=.returned (.bool false)∧Below W.heap.size W w':=by
 have:=covers_any aN16 aX16 q1 ⟨qd,a,ac,k,kc,wh,whc⟩ m cap [⟨0,0⟩] W aN16_right aX16_right rfl rfl (by decide +kernel) h1 h2 hm
 rw [aw16_c2] at this
 exact this
theorem aw16_cov3 (q1:Wp) (W:World) (h1:Ab W q1 aN16):Calls prog 13 #[.slice none 0 0,.agg #[.slice q1.d.ex 2 q1.d.exc,.slice q1.d.pl 2 q1.d.plc,.slice q1.d.co 2 q1.d.coc,.slice q1.d.it 1 q1.d.itc,.slice q1.d.bo 1 q1.d.boc,.int .i64 4,.int .i64 2,.int .i64 1,.slice q1.at_ 2 q1.atc,.slice q1.co 2 q1.coc,.slice q1.wh 1 q1.whc],.agg #[.slice q1.d.ex 2 q1.d.exc,.slice q1.d.pl 2 q1.d.plc,.slice q1.d.co 2 q1.d.coc,.slice q1.d.it 1 q1.d.itc,.slice q1.d.bo 1 q1.d.boc,.int .i64 4,.int .i64 2,.int .i64 1,.slice q1.at_ 2 q1.atc,.slice q1.co 2 q1.coc,.slice q1.wh 1 q1.whc]] W fun e w'=>e=.returned (.bool true)∧Below W.heap.size W w':=by
 have:=covers_any aN16 aN16 q1 q1 none 0 [] W aN16_right aN16_right rfl rfl (by decide +kernel) h1 h1 ⟨by simp,.inl rfl⟩
 rw [aw16_c3] at this
 exact this
set_option maxHeartbeats 4000000 in
theorem awake16_any (w:World):Calls prog 5 #[] w fun e w'=>e=.returned (.bool true)∧Below w.heap.size w w':=by
 have A0:=hid (aw16_start w)
 have hWC:=@wC.eq_1
 have hCC:=@cC.eq_1
 go_enter func5,ntmps5
 go_wp2_with fail
 generalize (((((w.alloc (.cells #[.int .i64 1,.int .i64 (-1),.int .i64 (-1),.int .i64 (-1),.int .i64 (-1),.int .i64 (-1),.int .i64 0,.int .i64 (-1)] 50)).alloc (.cells #[.int .i64 0,.int .i64 0] 3)).alloc (.cells #[.int .i64 5,.int .i64 2] 3)).alloc (.cells #[.int .i64 0] 3)).alloc (.cells #[.bool false] 4))=V1 at *
 have B_0:=hid A0.out.2
 refine (aw16_new w.heap.size _ A0.out.1).mono ?_
 rintro e u1 ⟨q1,rfl,g,b1⟩
 have B_1:=hid (bl B_0.out b1)
 clear b1 B_0
 have WN_1:=hid g
 clear g A0
 go_wp2_with fail
 have s2:(u1.alloc (.cells #[.slice q1.d.ex 2 q1.d.exc,.slice q1.d.pl 2 q1.d.plc,.slice q1.d.co 2 q1.d.coc,.slice q1.d.it 1 q1.d.itc,.slice q1.d.bo 1 q1.d.boc,.int .i64 4,.int .i64 2,.int .i64 1,.slice q1.at_ 2 q1.atc,.slice q1.co 2 q1.coc,.slice q1.wh 1 q1.whc] 29)).heap.size=u1.heap.size+1:=by simp
 have B_2:=hid (B_1.out.alloc B_1.out.size (.cells #[.slice q1.d.ex 2 q1.d.exc,.slice q1.d.pl 2 q1.d.plc,.slice q1.d.co 2 q1.d.coc,.slice q1.d.it 1 q1.d.itc,.slice q1.d.bo 1 q1.d.boc,.int .i64 4,.int .i64 2,.int .i64 1,.slice q1.at_ 2 q1.atc,.slice q1.co 2 q1.coc,.slice q1.wh 1 q1.whc] 29))
 have WN_2:=hid (WN_1.out.call (b_a (.cells #[.slice q1.d.ex 2 q1.d.exc,.slice q1.d.pl 2 q1.d.plc,.slice q1.d.co 2 q1.d.coc,.slice q1.d.it 1 q1.d.itc,.slice q1.d.bo 1 q1.d.boc,.int .i64 4,.int .i64 2,.int .i64 1,.slice q1.at_ 2 q1.atc,.slice q1.co 2 q1.coc,.slice q1.wh 1 q1.whc] 29)))
 have X_2:=hid (Ac.newb (w:=w) (A:=#[.slice q1.d.ex 2 q1.d.exc,.slice q1.d.pl 2 q1.d.plc,.slice q1.d.co 2 q1.d.coc,.slice q1.d.it 1 q1.d.itc,.slice q1.d.bo 1 q1.d.boc,.int .i64 4,.int .i64 2,.int .i64 1,.slice q1.at_ 2 q1.atc,.slice q1.co 2 q1.coc,.slice q1.wh 1 q1.whc]) (t:=29) (n:=u1.heap.size) B_1.out rfl)
 clear B_1 WN_1
 generalize u1.alloc (.cells #[.slice q1.d.ex 2 q1.d.exc,.slice q1.d.pl 2 q1.d.plc,.slice q1.d.co 2 q1.d.coc,.slice q1.d.it 1 q1.d.itc,.slice q1.d.bo 1 q1.d.boc,.int .i64 4,.int .i64 2,.int .i64 1,.slice q1.at_ 2 q1.atc,.slice q1.co 2 q1.coc,.slice q1.wh 1 q1.whc] 29)=V2 at *
 have hcX:=X_2.out.2.2
 have hlX:=X_2.out.2.1
 clear s2
 clear hcX hlX
 have HXL:=hid X_2.out.2.1
 refine (aw16_copy q1 _ WN_2.out).mono ?_
 rintro e z1 ⟨qd,a,k,wh,ac,kc,whc,rfl,hn,b1⟩
 obtain ⟨b,hwh,hb1,hb2,⟨c0,c1⟩,hf,hput⟩:=hn.putPlace (k:=0) (by decide)
 simp only at hwh
 subst hwh
 have HN:=hid (hput ⟨1,0⟩)
 have c0':z1.cell? ⟨b,0,none⟩=some (.int .i64 0):=c0
 have c1':z1.cell? ⟨b,1,none⟩=some (.int .i64 0):=c1
 have hxl:=HXL.out
 have s1:=b1.size
 have swb:=B_2.out.size
 have BS:=hid ((b1.setCell (p:=⟨b,0,none⟩) (by show V2.heap.size≤b;omega) (.int .i64 1)).setCell (p:=⟨b,1,none⟩) (by show V2.heap.size≤b;omega) (.int .i64 0))
 have z0:((z1.setCell ⟨b,0,none⟩ (.int .i64 1)).setCell ⟨b,1,none⟩ (.int .i64 0)).heap.size=z1.heap.size:=by simp [World.setCell]
 have ne1:u1.heap.size≠b:=by omega
 have ne2:b≠u1.heap.size:=by omega
 have ne3:z1.heap.size≠b:=by omega
 have ne4:b≠z1.heap.size:=by omega
 have hX1:=X_2.out.call b1
 have HX4:=hid ((hX1.far (b:=b) (by omega) ne1 0 (.int .i64 1)).far (b:=b) (by omega) ne1 1 (.int .i64 0))
 have hcX:=hX1.2.2
 have hlX:=hX1.2.1
 clear hn b1 c0 c1 hput hX1 swb
 go_wp2_with fail
 clear c0' c1' hf hcX hlX
 have HN4:=hid (show Jh V2.heap.size ((z1.setCell ⟨b,0,none⟩ (.int .i64 1)).setCell ⟨b,1,none⟩ (.int .i64 0)) q1.d ⟨qd,a,ac,k,kc,some ⟨b,0,none⟩,whc⟩ aX16 from HN.out)
 clear HN
 generalize ((z1.setCell ⟨b,0,none⟩ (.int .i64 1)).setCell ⟨b,1,none⟩ (.int .i64 0))=V4 at *
 have A4:=hid (HN4.out.world WN_2.out.d BS.out)
 have WN4:=hid (WN_2.out.below BS.out (Nat.le_refl _))
 have BW:=hid HX4.out.1
 have ca:=(Below.refl V4.heap.size V4).alloc (Nat.le_refl _) (.cells #[.slice qd.ex 2 qd.exc,.slice qd.pl 2 qd.plc,.slice qd.co 2 qd.coc,.slice qd.it 1 qd.itc,.slice qd.bo 1 qd.boc,.int .i64 4,.int .i64 2,.int .i64 1,.slice a 2 ac,.slice k 2 kc,.slice (some ⟨b,0,none⟩) 1 whc] 29)
 have B_8:=hid (bl BW.out ca)
 have A_8:=hid (A4.out.call ca)
 have WN_8:=hid (WN4.out.call ca)
 have X_8:=hid (HX4.out.call ca)
 have Y_8:=hid (Ac.newb (w:=w) (A:=#[.slice qd.ex 2 qd.exc,.slice qd.pl 2 qd.plc,.slice qd.co 2 qd.coc,.slice qd.it 1 qd.itc,.slice qd.bo 1 qd.boc,.int .i64 4,.int .i64 2,.int .i64 1,.slice a 2 ac,.slice k 2 kc,.slice (some ⟨b,0,none⟩) 1 whc]) (t:=29) (n:=z1.heap.size) BW.out z0)
 have zz:(V4.alloc (.cells #[.slice qd.ex 2 qd.exc,.slice qd.pl 2 qd.plc,.slice qd.co 2 qd.coc,.slice qd.it 1 qd.itc,.slice qd.bo 1 qd.boc,.int .i64 4,.int .i64 2,.int .i64 1,.slice a 2 ac,.slice k 2 kc,.slice (some ⟨b,0,none⟩) 1 whc] 29)).heap.size=z1.heap.size+1:=by simp [z0]
 clear ca A4 WN4 HX4 BW HN4 BS z0 ne1 ne2 ne3 ne4 hxl hb1 hb2 s1 HXL B_2 X_2 WN_2
 generalize V4.alloc (.cells #[.slice qd.ex 2 qd.exc,.slice qd.pl 2 qd.plc,.slice qd.co 2 qd.coc,.slice qd.it 1 qd.itc,.slice qd.bo 1 qd.boc,.int .i64 4,.int .i64 2,.int .i64 1,.slice a 2 ac,.slice k 2 kc,.slice (some ⟨b,0,none⟩) 1 whc] 29)=V5 at *
 have ca:=(Below.refl V5.heap.size V5).alloc (Nat.le_refl _) (.cells #[.int .i64 0,.int .i64 0,.int .i64 1,.int .i64 0] 47)
 have B_9:=hid (bl B_8.out ca)
 have A_9:=hid (A_8.out.call ca)
 have WN_9:=hid (WN_8.out.call ca)
 have X_9:=hid (X_8.out.call ca)
 have Y_9:=hid (Y_8.out.call ca)
 have ME_9:=hid (pls16 [⟨0,0⟩,⟨1,0⟩] (Blk.newn V5 47 #[.int .i64 0,.int .i64 0,.int .i64 1,.int .i64 0] (n:=z1.heap.size+1) zz) (by decide) rfl)
 clear ca B_8 A_8 WN_8 X_8 Y_8 zz
 generalize V5.alloc (.cells #[.int .i64 0,.int .i64 0,.int .i64 1,.int .i64 0] 47)=V6 at *
 have hsl:=cut_me (z1.heap.size+1)
 have KS:Hid (∀w',Below V6.heap.size V6 w'→Below V6.heap.size V6 w'∧(∀ii,w'.cell? ⟨u1.heap.size,ii,none⟩=(#[.slice q1.d.ex 2 q1.d.exc,.slice q1.d.pl 2 q1.d.plc,.slice q1.d.co 2 q1.d.coc,.slice q1.d.it 1 q1.d.itc,.slice q1.d.bo 1 q1.d.boc,.int .i64 4,.int .i64 2,.int .i64 1,.slice q1.at_ 2 q1.atc,.slice q1.co 2 q1.coc,.slice q1.wh 1 q1.whc][ii]?:Option Value))∧(∀ii,w'.cell? ⟨z1.heap.size,ii,none⟩=(#[.slice qd.ex 2 qd.exc,.slice qd.pl 2 qd.plc,.slice qd.co 2 qd.coc,.slice qd.it 1 qd.itc,.slice qd.bo 1 qd.boc,.int .i64 4,.int .i64 2,.int .i64 1,.slice a 2 ac,.slice k 2 kc,.slice (some ⟨b,0,none⟩) 1 whc][ii]?:Option Value))):=hid (fun w' hb=>⟨hb,fun ii=>(hb.cell (p:=⟨u1.heap.size,ii,none⟩) X_9.out.2.1).trans (X_9.out.2.2 ii),fun ii=>(hb.cell (p:=⟨z1.heap.size,ii,none⟩) Y_9.out.2.1).trans (Y_9.out.2.2 ii)⟩)
 have D0:=hid (Af (Below.refl V6.heap.size V6))
 refine tkS (S:=(fun w'=>Below V6.heap.size V6 w'∧(∀ii,w'.cell? ⟨u1.heap.size,ii,none⟩=(#[.slice q1.d.ex 2 q1.d.exc,.slice q1.d.pl 2 q1.d.plc,.slice q1.d.co 2 q1.d.coc,.slice q1.d.it 1 q1.d.itc,.slice q1.d.bo 1 q1.d.boc,.int .i64 4,.int .i64 2,.int .i64 1,.slice q1.at_ 2 q1.atc,.slice q1.co 2 q1.coc,.slice q1.wh 1 q1.whc][ii]?:Option Value))∧(∀ii,w'.cell? ⟨z1.heap.size,ii,none⟩=(#[.slice qd.ex 2 qd.exc,.slice qd.pl 2 qd.plc,.slice qd.co 2 qd.coc,.slice qd.it 1 qd.itc,.slice qd.bo 1 qd.boc,.int .i64 4,.int .i64 2,.int .i64 1,.slice a 2 ac,.slice k 2 kc,.slice (some ⟨b,0,none⟩) 1 whc][ii]?:Option Value)))) (by (first|(with_reducible exact KS.out _ D0.out))) (fun hHeld=>?_)
 refine tkl [0,1,3] ?_
 iterate 3
  refine tW ?_
  try go_frame
 refine rdy1 2 (fun K hK=>?_)
 go_simp
 refine (aw16_of1 q1 _ (WN_9.out.call D0.out)).mono ?_;rintro e x1 ⟨oaO1,ocO1,rfl,og,hb9⟩;have D1:=hid (Aa D0.out D0.out.size hb9);have O11:=hid og;clear hb9 og
 try go_wp2_with fail
 refine hK.out _ _ (by (first|(with_reducible exact KS.out _ D1.out))) (fun hHeld=>?_)
 clear hK K
 try go_frame
 refine rdy1 4 (fun K hK=>?_)
 go_simp
 refine (aw16_same2 oaO1 (some ⟨z1.heap.size+1,0,none⟩) ocO1 2 _ O11.out (ME_9.out.call D1.out)).mono ?_;rintro e x2 ⟨rfl,hb9⟩;have D2:=hid (Aa D1.out D1.out.size hb9);have O12:=hid (O11.out.call hb9);clear hb9 O11
 try go_wp2_with fail
 refine hK.out _ _ (by (first|(with_reducible exact KS.out _ D2.out))) (fun hHeld=>?_)
 clear hK K
 try go_frame
 refine tkl [5,6,7,9,10,11,12] ?_
 iterate 7
  refine tW ?_
  try go_frame
 refine wpAnyH_ready (rs:=[8,13]) (by kernel_rfl) (by simp) (AllReadyH.cons (by simp only [List.getElem?_toArray,List.getElem?_cons_succ,List.getElem?_cons_zero];rfl) (fun K hK=>?_) (AllReadyH.cons (by simp only [List.getElem?_toArray,List.getElem?_cons_succ,List.getElem?_cons_zero];rfl) (fun K hK=>?_) AllReadyH.nil))
 ·skip
  go_simp
  refine (aw16_of2 q1 _ (WN_9.out.call D2.out)).mono ?_;rintro e x3 ⟨oaO2,ocO2,rfl,og,hb9⟩;have D3:=hid (Aa D2.out D2.out.size hb9);have O13:=hid (O12.out.call hb9);have O23:=hid og;clear hb9 O12 og
  try go_wp2_with fail
  refine hK.out _ _ (by (first|(with_reducible exact KS.out _ D3.out))) (fun hHeld=>?_)
  clear hK K
  try go_frame
  refine rdy1 13 (fun K hK=>?_)
  have ca:=(Below.refl x3.heap.size x3).alloc (Nat.le_refl _) (.cells #[.int .i64 0,.int .i64 0,.int .i64 0,.int .i64 1,.int .i64 1,.int .i64 0,.int .i64 1,.int .i64 1] 47)
  have D4:=hid (bl D3.out ca)
  have O14:=hid (O13.out.call ca)
  have O24:=hid (O23.out.call ca)
  have KR4:=hid (pls16 [⟨0,0⟩,⟨0,1⟩,⟨1,0⟩,⟨1,1⟩] (Blk.new x3 47 #[.int .i64 0,.int .i64 0,.int .i64 0,.int .i64 1,.int .i64 1,.int .i64 0,.int .i64 1,.int .i64 1]) (by decide) rfl)
  go_simp
  try go_wp2_with fail
  refine hK.out _ _ (by (first|(with_reducible exact KS.out _ D4.out))) (fun hHeld=>?_)
  clear hK K
  try go_frame
  clear ca D3 O13 O23
  generalize x3.alloc (.cells #[.int .i64 0,.int .i64 0,.int .i64 0,.int .i64 1,.int .i64 1,.int .i64 0,.int .i64 1,.int .i64 1] 47)=x4 at *
  generalize x3.heap.size=g4 at *
  refine rdy1 14 (fun K hK=>?_)
  go_simp
  refine (aw16_same4 oaO2 (some ⟨g4,0,none⟩) ocO2 4 _ O24.out KR4.out).mono ?_;rintro e x5 ⟨rfl,hb9⟩;have D5:=hid (Aa D4.out D4.out.size hb9);have O15:=hid (O14.out.call hb9);have O25:=hid (O24.out.call hb9);have KR5:=hid (KR4.out.call hb9);clear hb9 O14 O24 KR4
  try go_wp2_with fail
  refine hK.out _ _ (by (first|(with_reducible exact KS.out _ D5.out))) (fun hHeld=>?_)
  clear hK K
  try go_frame
  refine tkl [15,16,17,18,20] ?_
  iterate 5
   refine tW ?_
   try go_frame
  refine rdy1 19 (fun K hK=>?_)
  go_simp
  refine (aw16_of3 q1 _ (WN_9.out.call D5.out)).mono ?_;rintro e x6 ⟨oaO3,ocO3,rfl,og,hb9⟩;have D6:=hid (Aa D5.out D5.out.size hb9);have O16:=hid (O15.out.call hb9);have O26:=hid (O25.out.call hb9);have KR6:=hid (KR5.out.call hb9);have O36:=hid og;clear hb9 O15 O25 KR5 og
  try go_wp2_with fail
  refine hK.out _ _ (by (first|(with_reducible exact KS.out _ D6.out))) (fun hHeld=>?_)
  clear hK K
  try go_frame
  refine rdy1 21 (fun K hK=>?_)
  go_simp
  refine (aw16_same2 oaO3 (some ⟨z1.heap.size+1,0,none⟩) ocO3 2 _ O36.out (ME_9.out.call D6.out)).mono ?_;rintro e x7 ⟨rfl,hb9⟩;have D7:=hid (Aa D6.out D6.out.size hb9);have O17:=hid (O16.out.call hb9);have O27:=hid (O26.out.call hb9);have KR7:=hid (KR6.out.call hb9);have O37:=hid (O36.out.call hb9);clear hb9 O16 O26 KR6 O36
  try go_wp2_with fail
  refine hK.out _ _ (by (first|(with_reducible exact KS.out _ D7.out))) (fun hHeld=>?_)
  clear hK K
  try go_frame
  refine tkl [22,23,24,25,27] ?_
  iterate 5
   refine tW ?_
   try go_frame
  refine rdy1 26 (fun K hK=>?_)
  go_simp
  refine (aw16_of4 q1 _ (WN_9.out.call D7.out)).mono ?_;rintro e x8 ⟨oaO4,ocO4,rfl,og,hb9⟩;have D8:=hid (Aa D7.out D7.out.size hb9);have O18:=hid (O17.out.call hb9);have O28:=hid (O27.out.call hb9);have KR8:=hid (KR7.out.call hb9);have O38:=hid (O37.out.call hb9);have O48:=hid og;clear hb9 O17 O27 KR7 O37 og
  try go_wp2_with fail
  refine hK.out _ _ (by (first|(with_reducible exact KS.out _ D8.out))) (fun hHeld=>?_)
  clear hK K
  try go_frame
  refine rdy1 28 (fun K hK=>?_)
  go_simp
  refine (aw16_same2 oaO4 (some ⟨z1.heap.size+1,0,none⟩) ocO4 2 _ O48.out (ME_9.out.call D8.out)).mono ?_;rintro e x9 ⟨rfl,hb9⟩;have D9:=hid (Aa D8.out D8.out.size hb9);have O19:=hid (O18.out.call hb9);have O29:=hid (O28.out.call hb9);have KR9:=hid (KR8.out.call hb9);have O39:=hid (O38.out.call hb9);have O49:=hid (O48.out.call hb9);clear hb9 O18 O28 KR8 O38 O48
  try go_wp2_with fail
  refine hK.out _ _ (by (first|(with_reducible exact KS.out _ D9.out))) (fun hHeld=>?_)
  clear hK K
  try go_frame
  refine tkl [29,30,31,32,33] ?_
  iterate 5
   refine tW ?_
   try go_frame
  refine rdy1 34 (fun K hK=>?_)
  go_simp
  refine (aw16_cov1 (some ⟨z1.heap.size+1,0,none⟩) 2 q1 qd a k (some ⟨b,0,none⟩) ac kc whc _ (WN_9.out.call D9.out) (A_9.out.call D9.out) (ME_9.out.call D9.out)).mono ?_;rintro e x10 ⟨rfl,hb9⟩;have D10:=hid (Aa D9.out D9.out.size hb9);have O110:=hid (O19.out.call hb9);have O210:=hid (O29.out.call hb9);have KR10:=hid (KR9.out.call hb9);have O310:=hid (O39.out.call hb9);have O410:=hid (O49.out.call hb9);clear hb9 O19 O29 KR9 O39 O49
  try go_wp2_with fail
  refine hK.out _ _ (by (first|(with_reducible exact KS.out _ D10.out))) (fun hHeld=>?_)
  clear hK K
  try go_frame
  refine tkl [35,36,37,38,39,40] ?_
  iterate 6
   refine tW ?_
   try go_frame
  refine rdy1 41 (fun K hK=>?_)
  go_simp
  refine (aw16_cov2 (some ⟨z1.heap.size+1,0,none⟩) 2 q1 qd a k (some ⟨b,0,none⟩) ac kc whc _ (WN_9.out.call D10.out) (A_9.out.call D10.out) (pls_one (ME_9.out.call D10.out))).mono ?_;rintro e x11 ⟨rfl,hb9⟩;have D11:=hid (Aa D10.out D10.out.size hb9);have O111:=hid (O110.out.call hb9);have O211:=hid (O210.out.call hb9);have KR11:=hid (KR10.out.call hb9);have O311:=hid (O310.out.call hb9);have O411:=hid (O410.out.call hb9);clear hb9 O110 O210 KR10 O310 O410
  try go_wp2_with fail
  refine hK.out _ _ (by (first|(with_reducible exact KS.out _ D11.out))) (fun hHeld=>?_)
  clear hK K
  try go_frame
  refine tkl [42,43,44,45,46] ?_
  iterate 5
   refine tW ?_
   try go_frame
  refine rdy1 47 (fun K hK=>?_)
  go_simp
  refine (aw16_cov3 q1 _ (WN_9.out.call D11.out)).mono ?_;rintro e x12 ⟨rfl,hb9⟩;have D12:=hid (Aa D11.out D11.out.size hb9);have O112:=hid (O111.out.call hb9);have O212:=hid (O211.out.call hb9);have KR12:=hid (KR11.out.call hb9);have O312:=hid (O311.out.call hb9);have O412:=hid (O411.out.call hb9);clear hb9 O111 O211 KR11 O311 O411
  try go_wp2_with fail
  refine hK.out _ _ (by (first|(with_reducible exact KS.out _ D12.out))) (fun hHeld=>?_)
  clear hK K
  try go_frame
  refine tkl [48,49] ?_
  iterate 2
   refine tW ?_
   try go_frame
  refine tkD ?_
  go_wp2_with fail
  go_ret
  exact ⟨rfl,bl B_9.out D12.out⟩
 ·skip
  have ca:=(Below.refl x2.heap.size x2).alloc (Nat.le_refl _) (.cells #[.int .i64 0,.int .i64 0,.int .i64 0,.int .i64 1,.int .i64 1,.int .i64 0,.int .i64 1,.int .i64 1] 47)
  have D3:=hid (bl D2.out ca)
  have O13:=hid (O12.out.call ca)
  have KR3:=hid (pls16 [⟨0,0⟩,⟨0,1⟩,⟨1,0⟩,⟨1,1⟩] (Blk.new x2 47 #[.int .i64 0,.int .i64 0,.int .i64 0,.int .i64 1,.int .i64 1,.int .i64 0,.int .i64 1,.int .i64 1]) (by decide) rfl)
  go_simp
  try go_wp2_with fail
  refine hK.out _ _ (by (first|(with_reducible exact KS.out _ D3.out))) (fun hHeld=>?_)
  clear hK K
  try go_frame
  clear ca D2 O12
  generalize x2.alloc (.cells #[.int .i64 0,.int .i64 0,.int .i64 0,.int .i64 1,.int .i64 1,.int .i64 0,.int .i64 1,.int .i64 1] 47)=x3 at *
  generalize x2.heap.size=g4 at *
  refine rdy1 8 (fun K hK=>?_)
  go_simp
  refine (aw16_of2 q1 _ (WN_9.out.call D3.out)).mono ?_;rintro e x4 ⟨oaO2,ocO2,rfl,og,hb9⟩;have D4:=hid (Aa D3.out D3.out.size hb9);have O14:=hid (O13.out.call hb9);have KR4:=hid (KR3.out.call hb9);have O24:=hid og;clear hb9 O13 KR3 og
  try go_wp2_with fail
  refine hK.out _ _ (by (first|(with_reducible exact KS.out _ D4.out))) (fun hHeld=>?_)
  clear hK K
  try go_frame
  refine rdy1 14 (fun K hK=>?_)
  go_simp
  refine (aw16_same4 oaO2 (some ⟨g4,0,none⟩) ocO2 4 _ O24.out KR4.out).mono ?_;rintro e x5 ⟨rfl,hb9⟩;have D5:=hid (Aa D4.out D4.out.size hb9);have O15:=hid (O14.out.call hb9);have KR5:=hid (KR4.out.call hb9);have O25:=hid (O24.out.call hb9);clear hb9 O14 KR4 O24
  try go_wp2_with fail
  refine hK.out _ _ (by (first|(with_reducible exact KS.out _ D5.out))) (fun hHeld=>?_)
  clear hK K
  try go_frame
  refine tkl [15,16,17,18,20] ?_
  iterate 5
   refine tW ?_
   try go_frame
  refine rdy1 19 (fun K hK=>?_)
  go_simp
  refine (aw16_of3 q1 _ (WN_9.out.call D5.out)).mono ?_;rintro e x6 ⟨oaO3,ocO3,rfl,og,hb9⟩;have D6:=hid (Aa D5.out D5.out.size hb9);have O16:=hid (O15.out.call hb9);have KR6:=hid (KR5.out.call hb9);have O26:=hid (O25.out.call hb9);have O36:=hid og;clear hb9 O15 KR5 O25 og
  try go_wp2_with fail
  refine hK.out _ _ (by (first|(with_reducible exact KS.out _ D6.out))) (fun hHeld=>?_)
  clear hK K
  try go_frame
  refine rdy1 21 (fun K hK=>?_)
  go_simp
  refine (aw16_same2 oaO3 (some ⟨z1.heap.size+1,0,none⟩) ocO3 2 _ O36.out (ME_9.out.call D6.out)).mono ?_;rintro e x7 ⟨rfl,hb9⟩;have D7:=hid (Aa D6.out D6.out.size hb9);have O17:=hid (O16.out.call hb9);have KR7:=hid (KR6.out.call hb9);have O27:=hid (O26.out.call hb9);have O37:=hid (O36.out.call hb9);clear hb9 O16 KR6 O26 O36
  try go_wp2_with fail
  refine hK.out _ _ (by (first|(with_reducible exact KS.out _ D7.out))) (fun hHeld=>?_)
  clear hK K
  try go_frame
  refine tkl [22,23,24,25,27] ?_
  iterate 5
   refine tW ?_
   try go_frame
  refine rdy1 26 (fun K hK=>?_)
  go_simp
  refine (aw16_of4 q1 _ (WN_9.out.call D7.out)).mono ?_;rintro e x8 ⟨oaO4,ocO4,rfl,og,hb9⟩;have D8:=hid (Aa D7.out D7.out.size hb9);have O18:=hid (O17.out.call hb9);have KR8:=hid (KR7.out.call hb9);have O28:=hid (O27.out.call hb9);have O38:=hid (O37.out.call hb9);have O48:=hid og;clear hb9 O17 KR7 O27 O37 og
  try go_wp2_with fail
  refine hK.out _ _ (by (first|(with_reducible exact KS.out _ D8.out))) (fun hHeld=>?_)
  clear hK K
  try go_frame
  refine rdy1 28 (fun K hK=>?_)
  go_simp
  refine (aw16_same2 oaO4 (some ⟨z1.heap.size+1,0,none⟩) ocO4 2 _ O48.out (ME_9.out.call D8.out)).mono ?_;rintro e x9 ⟨rfl,hb9⟩;have D9:=hid (Aa D8.out D8.out.size hb9);have O19:=hid (O18.out.call hb9);have KR9:=hid (KR8.out.call hb9);have O29:=hid (O28.out.call hb9);have O39:=hid (O38.out.call hb9);have O49:=hid (O48.out.call hb9);clear hb9 O18 KR8 O28 O38 O48
  try go_wp2_with fail
  refine hK.out _ _ (by (first|(with_reducible exact KS.out _ D9.out))) (fun hHeld=>?_)
  clear hK K
  try go_frame
  refine tkl [29,30,31,32,33] ?_
  iterate 5
   refine tW ?_
   try go_frame
  refine rdy1 34 (fun K hK=>?_)
  go_simp
  refine (aw16_cov1 (some ⟨z1.heap.size+1,0,none⟩) 2 q1 qd a k (some ⟨b,0,none⟩) ac kc whc _ (WN_9.out.call D9.out) (A_9.out.call D9.out) (ME_9.out.call D9.out)).mono ?_;rintro e x10 ⟨rfl,hb9⟩;have D10:=hid (Aa D9.out D9.out.size hb9);have O110:=hid (O19.out.call hb9);have KR10:=hid (KR9.out.call hb9);have O210:=hid (O29.out.call hb9);have O310:=hid (O39.out.call hb9);have O410:=hid (O49.out.call hb9);clear hb9 O19 KR9 O29 O39 O49
  try go_wp2_with fail
  refine hK.out _ _ (by (first|(with_reducible exact KS.out _ D10.out))) (fun hHeld=>?_)
  clear hK K
  try go_frame
  refine tkl [35,36,37,38,39,40] ?_
  iterate 6
   refine tW ?_
   try go_frame
  refine rdy1 41 (fun K hK=>?_)
  go_simp
  refine (aw16_cov2 (some ⟨z1.heap.size+1,0,none⟩) 2 q1 qd a k (some ⟨b,0,none⟩) ac kc whc _ (WN_9.out.call D10.out) (A_9.out.call D10.out) (pls_one (ME_9.out.call D10.out))).mono ?_;rintro e x11 ⟨rfl,hb9⟩;have D11:=hid (Aa D10.out D10.out.size hb9);have O111:=hid (O110.out.call hb9);have KR11:=hid (KR10.out.call hb9);have O211:=hid (O210.out.call hb9);have O311:=hid (O310.out.call hb9);have O411:=hid (O410.out.call hb9);clear hb9 O110 KR10 O210 O310 O410
  try go_wp2_with fail
  refine hK.out _ _ (by (first|(with_reducible exact KS.out _ D11.out))) (fun hHeld=>?_)
  clear hK K
  try go_frame
  refine tkl [42,43,44,45,46] ?_
  iterate 5
   refine tW ?_
   try go_frame
  refine rdy1 47 (fun K hK=>?_)
  go_simp
  refine (aw16_cov3 q1 _ (WN_9.out.call D11.out)).mono ?_;rintro e x12 ⟨rfl,hb9⟩;have D12:=hid (Aa D11.out D11.out.size hb9);have O112:=hid (O111.out.call hb9);have KR12:=hid (KR11.out.call hb9);have O212:=hid (O211.out.call hb9);have O312:=hid (O311.out.call hb9);have O412:=hid (O411.out.call hb9);clear hb9 O111 KR11 O211 O311 O411
  try go_wp2_with fail
  refine hK.out _ _ (by (first|(with_reducible exact KS.out _ D12.out))) (fun hHeld=>?_)
  clear hK K
  try go_frame
  refine tkl [48,49] ?_
  iterate 2
   refine tW ?_
   try go_frame
  refine tkD ?_
  go_wp2_with fail
  go_ret
  exact ⟨rfl,bl B_9.out D12.out⟩
theorem fits16_any (x:Wd) (p:Wp) (w:World) (h:Ab w p x):Calls prog 6 #[.agg (wC x p)] w fun e w'=>e=.returned (.bool (Ba x))∧Below w.heap.size w w':=by
 have HN:=hid (Ac.new w (wC x p) 29)
 have H:=hid h
 clear h
 cases hf:fewB x
 ·have HF:=hid hf
  have HR:=hid (show Ba x=false by simp [Ba,hf])
  clear hf
  have hWC:=@wC.eq_1
  have hCC:=@cC.eq_1
  go_enter func6,ntmps6
  go_wp2_with fail
  refine (El x p _).mono ?_
  rintro e w1 ⟨rfl,b1⟩
  rw [HF.out]
  have K1:=hid (HN.out.call b1)
  clear b1
  go_wp2_with fail
  go_ret
  exact ⟨Ag HR.out.symm,K1.out.1⟩
 ·have HF:=hid hf
  have HR:=hid (show Ba x=Ai x by simp [Ba,hf])
  obtain ⟨r,hr⟩:∃r,Ai x=r:=⟨_,rfl⟩
  have HRR:=hid hr
  clear hf hr
  have hWC:=@wC.eq_1
  have hCC:=@cC.eq_1
  go_enter func6,ntmps6
  go_wp2_with fail
  refine (El x p _).mono ?_
  rintro e w1 ⟨rfl,b1⟩
  rw [HF.out]
  have K1:=hid (HN.out.call b1)
  have hc:=K1.out.2.2
  have hl:=K1.out.2.1
  clear b1
  go_wp2_with fail
  refine (Ef x p _ (H.out.below K1.out.1 (Nat.le_refl _))).mono ?_
  rintro e w2 ⟨rfl,b2⟩
  rw [HRR.out]
  have K2:=hid (K1.out.call b2)
  clear b2 hc hl
  go_wp2_with fail
  go_ret
  exact ⟨Ag (by rw [HR.out,HRR.out]),K2.out.1⟩
end Go.Proofs.Ytenpcndoilcjcaa
