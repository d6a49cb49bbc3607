/- A region that draws its order, in the round of a range over a function: as it is walked outside of one. -/
import Derived.RangeFuncWrites
import Derived.OrdersIn
import Derived.CallsIn
import Derived.Sort.BigQuietIn
import Derived.Test.YtenpcndoilcjcaaTreeRefA
import Derived.Test.YtenpcndoilcjcaaGFootM
import Derived.Test.YtenpcndoilcjcaaGWaysC
import Derived.Test.YtenpcndoilcjcaaGKeysS
import Derived.Test.YtenpcndoilcjcaaGHoldA
namespace Go.Proofs.Ytenpcndoilcjcaa
open Go.ChangeShapes Go.WideShapes Go.ChangeAt Go.RowKit Go.Proofs.Try
open Lib (hid)
set_option linter.unusedVariables false
set_option maxHeartbeats 4000000
set_option maxRecDepth 100000
section
open Go.RowKit Go
def NoOut (Q:Exit→Act→World→Prop):Exit→Act→World→Prop
 | .panic _,_,_=>False
 | .outgrown,_,_=>False
 | e,a,w=>Q e a w
theorem NoOut.imp {Q:Exit→Act→World→Prop} (e:Exit) (a:Act) (w:World) (h:NoOut Q e a w):Q e a w:=by
 cases e<;>first|exact h|exact (h:False).elim
def noDef (ops:Array Oper):Bool:=ops.toList.all fun o=>match o.op with|.defer _=>false|_=>true
theorem noDef_get {ops:Array Oper} (h:noDef ops=true) {i:Nat} {o:Oper} (ho:ops[i]?=some o) (c:Call):o.op≠.defer c:=by
 intro e
 have hm:o∈ops.toList:=by
  obtain ⟨hi,rfl⟩:=Array.getElem?_eq_some_iff.1 ho
  exact Array.getElem_mem_toList hi
 have:=List.all_eq_true.1 h o hm
 rw [e] at this
 cases this
section
variable {P:Program} {md:Region.Mode} {ops:Array Oper} {Q:Exit→Act→World→Prop} {S:World→Prop}
theorem rowsIn_plain {n:Nat} {row:String} {args:Array Value} {w:World} {R:Value→World→Prop} (h:Rows P row args w R):RowsIn Fence.wide n P row args w R :=
 fun c cs _=>let ⟨v,w',r,s⟩:=h c cs;⟨v,w',r,stepsIn_wide.2 s⟩
theorem wpOpIn_plain (l n:Nat) (hno:noDef ops=true) (hL:¬LetsOut Q) {i:Nat} {K K':Act→World→Prop} {a:Act} {w:World} (hK:∀a w,K a w→K' a w) (h:wpOp P ops Q i K a w) :
 wpOpIn (Fence.wide.inRound l) n P ops Q i K' a w:=by
 unfold wpOp at h
 unfold wpOpIn
 cases ho:ops[i]? with
 | none=>rw [ho] at h;exact hK _ _ h
 | some o =>
   rw [ho] at h
   simp only at h ⊢
   split at h
   ·rename_i hw
    rw [if_pos hw]
    replace h:=h.resolve_right (fun h=>hL h.2)
    refine ⟨fun _ _=>trivial,?_⟩
    rw [Oper.semAt_eq _ _ _ (noDef_get hno ho)]
    unfold Oper.wp at h
    generalize (execOp a.eval o).run P w=r at h ⊢
    cases r with
    | ok x w' =>
      cases x<;>simp only [Oper.upon,Oper.uponIn] at h ⊢
      case value v=>exact hK _ _ h
      case skip=>exact hK _ _ h
      case defer d=>exact hK _ _ h
      case enter f args =>
       refine ⟨fun h=>by simp [Fence.wide] at h,?_⟩
       refine CallsIn.mono (callsIn_wide.2 h) fun e w'' he=>?_
       cases e with
       | returned v=>exact hK _ _ he
       | panicked c=>exact he
       | outgrown=>exact he
      case row row args =>
       exact ⟨fun h=>by simp [Fence.wide] at h,RowsIn.mono (rowsIn_plain h) fun v w'' he=>hK _ _ he⟩
    | halt x w' =>
      cases x<;>simp only [Oper.upon,Oper.uponIn] at h ⊢
      case panic v=>exact h
   ·rename_i hw
    rw [if_neg hw]
    exact ⟨fun _ _=>trivial,hK _ _ h⟩
theorem wpAnyIn_plain (l n:Nat) (hno:noDef ops=true) (hL:¬LetsOut Q):∀(fuel:Nat) (listed:Array Bool) (a:Act) (w:World),wpAny P md ops Q fuel listed a w→wpAnyIn (Fence.wide.inRound l) n P md ops Q fuel listed a w
 | 0,_,_,_,h=>h
 | fuel+1,_,_,_,h=>⟨h.1,fun i hi=>wpOpIn_plain l n hno hL (fun a' w' h'=>wpAnyIn_plain l n hno hL fuel _ a' w' h') (h.2 i hi)⟩
theorem tkR {id l n:Nat} {a:Act} {w:World} (hS:S w.drew) (h:S w.drew→wpAnyH P .any ops (NoOut Q) S ops.size (Array.replicate ops.size false) a w.drew)
 (hm:P.follows .mixedOrders=true:=by kernel_rfl) (hno:noDef ops=true:=by kernel_rfl):(Code.region id ops true).wpIn (Fence.wide.inRound l) n P Q a w :=
 wpIn_mono (wpIn_region_any hm (wpAnyIn_plain l n hno (fun ⟨_,_,h⟩=>h) _ _ _ _ (wpAny_of_held _ _ _ _ (h hS)))) NoOut.imp
theorem tkE {fuel:Nat} {listed:Array Bool} {a:Act} {w:World} (h:Q .normal a w) (hr:Region.ready md ops listed=[]:=by kernel_rfl):wpAnyH P md ops (NoOut Q) S fuel listed a w :=
 wpAnyH_done (Q:=NoOut Q) hr (show NoOut Q .normal a w from h) fuel
end
end
section
open Go.RowKit Go
theorem fplayer_any (x:Wd) (p:Wp) (n:Int) (w:World):Calls prog 31 #[.agg (wC x p),.int .i64 n] w fun e w'=>e=.returned (.bool (inB n x.at_.length))∧Below w.heap.size w w':=by
 have HB:=hid ((Below.refl w.heap.size w).alloc (Nat.le_refl _) (.cells (wC x p) 29))
 unfold inB
 by_cases h1:0≤n
 ·by_cases h2:n<x.at_.length
  ·
   have hWC:=@wC.eq_1
   go_enter func31,ntmps31
   go_wp2_with fail
   go_ret
   exact ⟨Ag (by simp),HB.out⟩
  ·
   have hWC:=@wC.eq_1
   go_enter func31,ntmps31
   go_wp2_with fail
   go_ret
   exact ⟨Ag (by simp [h2]),HB.out⟩
 ·
  have hWC:=@wC.eq_1
  go_enter func31,ntmps31
  go_wp2_with fail
  go_ret
  exact ⟨Ag (by simp;omega),HB.out⟩
theorem roomkey_any (n:Int) (w:World):Calls prog 32 #[.int .i64 n] w fun e w'=>e=.returned (.agg #[.int .i64 0,.int .i64 n])∧Below w.heap.size w w':=by
 have HB:=hid ((Below.refl w.heap.size w).alloc (Nat.le_refl _) (.cells #[.int .i64 0,.int .i64 n] 47))
 have HK:=hid (Blk.new w 47 #[.int .i64 0,.int .i64 n])
 have hWC:=@wC.eq_1
 go_enter func32,ntmps32
 go_wp2_with fail
 have c5:=HK.out.cell
 refine bodyPost_ret (v:=.agg #[.int .i64 0,.int .i64 n]) (by simp [results,results32,go_sem,c5]) rfl ?_
 exact ⟨rfl,HB.out⟩
theorem mekey_any (n:Int) (w:World):Calls prog 33 #[.int .i64 n] w fun e w'=>e=.returned (.agg #[.int .i64 1,.int .i64 n])∧Below w.heap.size w w':=by
 have HB:=hid ((Below.refl w.heap.size w).alloc (Nat.le_refl _) (.cells #[.int .i64 1,.int .i64 n] 47))
 have HK:=hid (Blk.new w 47 #[.int .i64 1,.int .i64 n])
 have hWC:=@wC.eq_1
 go_enter func33,ntmps33
 go_wp2_with fail
 have c5:=HK.out.cell
 refine bodyPost_ret (v:=.agg #[.int .i64 1,.int .i64 n]) (by simp [results,results33,go_sem,c5]) rfl ?_
 exact ⟨rfl,HB.out⟩
def fdirB (k:Int):Bool:=decide (k=1∨k=2)
def fwhoB (k:Int):Bool:=decide (k=2∨k=7∨k=8)
theorem hasdir_any (k:Int) (w:World):Calls prog 35 #[.int .i64 k] w fun e w'=>e=.returned (.bool (fdirB k))∧w=w':=by
 by_cases h1:k=1
 ·have q1:(k==1)=true:=by simpa using h1
  have HR:=hid (show fdirB k=true by simp [fdirB,h1])
  clear h1
  have hWC:=@wC.eq_1
  go_enter func35,ntmps35
  go_wp2_with fail
  go_ret
  exact ⟨Ag HR.out.symm,rfl⟩
 ·by_cases h2:k=2
  ·have q1:(k==1)=false:=by simpa using h1
   have q2:(k==2)=true:=by simpa using h2
   have HR:=hid (show fdirB k=true by simp [fdirB,h2])
   clear h1 h2
   have hWC:=@wC.eq_1
   go_enter func35,ntmps35
   go_wp2_with fail
   go_ret
   exact ⟨Ag HR.out.symm,rfl⟩
  ·have q1:(k==1)=false:=by simpa using h1
   have q2:(k==2)=false:=by simpa using h2
   have HR:=hid (show fdirB k=false by simp [fdirB,h1,h2])
   clear h1 h2
   have hWC:=@wC.eq_1
   go_enter func35,ntmps35
   go_wp2_with fail
   go_ret
   exact ⟨Ag HR.out.symm,rfl⟩
theorem haswho_any (k:Int) (w:World):Calls prog 36 #[.int .i64 k] w fun e w'=>e=.returned (.bool (fwhoB k))∧w=w':=by
 by_cases h1:k=2
 ·have q1:(k==2)=true:=by simpa using h1
  have HR:=hid (show fwhoB k=true by simp [fwhoB,h1])
  clear h1
  have hWC:=@wC.eq_1
  go_enter func36,ntmps36
  go_wp2_with fail
  go_ret
  exact ⟨Ag HR.out.symm,rfl⟩
 ·by_cases h2:k=7
  ·have q1:(k==2)=false:=by simpa using h1
   have q2:(k==7)=true:=by simpa using h2
   have HR:=hid (show fwhoB k=true by simp [fwhoB,h2])
   clear h1 h2
   have hWC:=@wC.eq_1
   go_enter func36,ntmps36
   go_wp2_with fail
   go_ret
   exact ⟨Ag HR.out.symm,rfl⟩
  ·by_cases h3:k=8
   ·have q1:(k==2)=false:=by simpa using h1
    have q2:(k==7)=false:=by simpa using h2
    have q3:(k==8)=true:=by simpa using h3
    have HR:=hid (show fwhoB k=true by simp [fwhoB,h3])
    clear h1 h2 h3
    have hWC:=@wC.eq_1
    go_enter func36,ntmps36
    go_wp2_with fail
    go_ret
    exact ⟨Ag HR.out.symm,rfl⟩
   ·have q1:(k==2)=false:=by simpa using h1
    have q2:(k==7)=false:=by simpa using h2
    have q3:(k==8)=false:=by simpa using h3
    have HR:=hid (show fwhoB k=false by simp [fwhoB,h1,h2,h3])
    clear h1 h2 h3
    have hWC:=@wC.eq_1
    go_enter func36,ntmps36
    go_wp2_with fail
    go_ret
    exact ⟨Ag HR.out.symm,rfl⟩
theorem notin_more {l:List Pl} {k:Nat} {z:Pl} (h:k<l.length) (h1:¬z∈l.take k) (h2:¬z=l[k]):¬z∈l.take (k+1):=by
 rw [List.take_succ_eq_append_getElem h,List.mem_append,List.mem_singleton]
 exact not_or.2 ⟨h1,h2⟩
theorem index_any (a:Option Addr) (cap:Nat) (l:List Pl) (z:Pl) (w:World) (h:Au w a l):Calls prog 65 #[.slice a l.length cap,.agg #[.int .i64 z.kind,.int .i64 z.id]] w fun e w'=>∃n:Int,e=.returned (.int .i64 n)∧decide (0≤n)=decide (z∈l)∧Below w.heap.size w w':=by
 have hm:=h.len
 have H:=hid h
 obtain ⟨z0,z1⟩:=z
 have H0:=hid (Ac.new w #[.int .i64 z0,.int .i64 z1] 47)
 clear h
 have hWC:=@wC.eq_1
 go_enter func65,ntmps65
 go_wp2_with fail
 generalize w.alloc (.cells #[.int .i64 z0,.int .i64 z1] 47)=V0 at *
 go_loopw [5,8] (fun _ i wr=>∃k:Nat,k≤l.length∧i=.int .i64 k∧¬(⟨z0,z1⟩:Pl)∈l.take k∧Ac w w.heap.size #[.int .i64 z0,.int .i64 z1] wr) (fun _ i _=>l.length-(intOf i).toNat)
 case atStart=>exact ⟨0,Nat.zero_le _,rfl,by simp,H0.out⟩
 case round =>
  obtain ⟨k,hk,rfl,hn,hh⟩:=hrel
  have HN:=hid hn
  have HH:=hid hh
  have hc:=hh.2.2
  have hlh:=hh.2.1
  clear hn H0
  by_cases hlt:k<l.length
  ·obtain ⟨b,o,rfl,hbb,h0,h1⟩:=H.out.cells hlt
   have c0:=Bz h0 hbb hh.1
   have c1:=Bz h1 hbb hh.1
   have HM:=hid (fun e=>notin_more (z:=⟨z0,z1⟩) hlt HN.out e)
   have HI:=hid (fun e:(⟨z0,z1⟩:Pl)=l[k]=>(show (⟨z0,z1⟩:Pl)∈l from e ▸ List.getElem_mem hlt))
   clear h0 h1 hh HN
   generalize l[k]=y at *
   obtain ⟨y0,y1⟩:=y
   simp only at c0 c1
   have hrun:=Ag5 z0 z1 y0 y1
   by_cases he:(⟨z0,z1⟩:Pl)=⟨y0,y1⟩
   ·have HE:=hid (HI.out he)
    simp only [he,decide_true] at hrun
    clear he HI HM
    go_wp2_with fail
    go_quiet (fail)
    go_wp2_with fail
    go_ret
    exact ⟨k,rfl,by rw [decide_eq_true HE.out];exact decide_eq_true (by omega),Ib HH.out.1 _⟩
   ·have HE:=hid (HM.out he)
    simp only [he,decide_false] at hrun
    clear he HI HM
    go_wp2_with fail
    go_quiet (fail)
    go_wp2_with fail
    go_roundw
    case rel=>exact ⟨k+1,by omega,by go_num,HE.out,HH.out.call (Ib (Below.refl _ _) _)⟩
    case measure=>simp [intOf];omega
  ·have hke:k=l.length:=by omega
   subst hke
   rw [List.take_length] at HN
   clear H hc hlh
   go_wp2_with fail
   go_ret
   exact ⟨-1,rfl,by rw [decide_eq_false HN.out];decide,HH.out.1⟩
theorem contains_any (a:Option Addr) (cap:Nat) (l:List Pl) (z:Pl) (w:World) (h:Au w a l):Calls prog 40 #[.slice a l.length cap,.agg #[.int .i64 z.kind,.int .i64 z.id]] w fun e w'=>e=.returned (.bool (decide (z∈l)))∧Below w.heap.size w w':=by
 have H:=hid h
 have HB:=hid ((Below.refl w.heap.size w).alloc (Nat.le_refl _) (.cells #[.int .i64 z.kind,.int .i64 z.id] 47))
 clear h
 have hWC:=@wC.eq_1
 go_enter func40,ntmps40
 go_wp2_with fail
 refine (index_any a cap l z _ (H.out.below HB.out (Nat.le_refl _))).mono ?_
 rintro e w1 ⟨n,rfl,hn,hb⟩
 have HN:=hid hn
 have HB2:=hid (bl HB.out hb)
 clear hn hb
 by_cases h0:0≤n
 ·
  go_wp2_with fail
  go_ret
  exact ⟨Ag (by rw [←HN.out];simpa using h0),HB2.out⟩
 ·
  go_wp2_with fail
  go_ret
  exact ⟨Ag HN.out,HB2.out⟩
theorem has_any (a:Option Addr) (cap:Nat) (l:List Pl) (z:Pl) (w:World) (h:Au w a l):Calls prog 41 #[.slice a l.length cap,.int .i64 z.kind,.int .i64 z.id] w fun e w'=>e=.returned (.bool (decide (z∈l)))∧w=w':=by
 have hm:=h.len
 have H:=hid h
 obtain ⟨z0,z1⟩:=z
 clear h
 have hWC:=@wC.eq_1
 go_enter func41,ntmps41
 go_wp2_with fail
 go_loopw [7] (fun i wr=>∃k:Nat,k≤l.length∧i=.int .i64 k∧¬(⟨z0,z1⟩:Pl)∈l.take k∧wr=w) (fun i _=>l.length-(intOf i).toNat)
 case atStart=>exact ⟨0,Nat.zero_le _,rfl,by simp,rfl⟩
 case round =>
  obtain ⟨k,hk,rfl,hn,rfl⟩:=hrel
  have HN:=hid hn
  clear hn
  by_cases hlt:k<l.length
  ·obtain ⟨b,o,rfl,hbb,c0,c1⟩:=H.out.cells hlt
   have HM:=hid (fun e=>notin_more (z:=⟨z0,z1⟩) hlt HN.out e)
   have HI:=hid (fun e:(⟨z0,z1⟩:Pl)=l[k]=>(show (⟨z0,z1⟩:Pl)∈l from e ▸ List.getElem_mem hlt))
   clear HN
   generalize l[k]=y at *
   obtain ⟨y0,y1⟩:=y
   simp only at c0 c1
   by_cases h0:y0=z0
   ·by_cases h1:y1=z1
    ·have HE:=hid (HI.out (by rw [h0,h1]))
     have q0:(y0==z0)=true:=by simpa using h0
     have q1:(y1==z1)=true:=by simpa using h1
     clear h0 h1 HI HM
     go_wp2_with fail
     go_ret
     exact ⟨Ag (decide_eq_true HE.out).symm,rfl⟩
    ·have HE:=hid (HM.out (by rw [Pl.mk.injEq];exact fun e=>h1 e.2.symm))
     have q0:(y0==z0)=true:=by simpa using h0
     have q1:(y1==z1)=false:=by simpa using h1
     clear h0 h1 HI HM
     go_wp2_with fail
     go_roundw
     case rel=>exact ⟨k+1,by omega,by go_num,HE.out,by trivial⟩
     case measure=>simp [intOf];omega
   ·have HE:=hid (HM.out (by rw [Pl.mk.injEq];exact fun e=>h0 e.1.symm))
    have q0:(y0==z0)=false:=by simpa using h0
    clear h0 HI HM
    go_wp2_with fail
    go_roundw
    case rel=>exact ⟨k+1,by omega,by go_num,HE.out,by trivial⟩
    case measure=>simp [intOf];omega
  ·have hke:k=l.length:=by omega
   subst hke
   rw [List.take_length] at HN
   clear H
   go_wp2_with fail
   go_ret
   exact ⟨Ag (decide_eq_false HN.out).symm,rfl⟩
end
section
attribute [local go_sem] Oper.semAt_some
def KP (N:Nat→Prop) (W W':World):Prop:=W.heap.size≤W'.heap.size∧∀b cs t f,N b→W.heap[b]?=some (.cells cs t f)→W'.heap[b]?=some (.cells cs t f)
section
variable {N:Nat→Prop} {A B C:World}
theorem KP.refl (W:World):KP N W W:=⟨Nat.le_refl _,fun _ _ _ _ _ h=>h⟩
theorem KP.trans (h:KP N A B) (k:KP N B C):KP N A C:=⟨Nat.le_trans h.1 k.1,fun b cs t f hn hb=>k.2 b cs t f hn (h.2 b cs t f hn hb)⟩
theorem KP.grown {row:Option Nat} (h:KP N A B) (hg:B.grownBy C row) (hr:∀b,row=some b→¬N b):KP N A C :=
 ⟨Nat.le_trans h.1 hg.size,fun b cs t f hn hb=>by
   have h2:=h.2 b cs t f hn hb
   exact (hg.block b (Array.getElem?_eq_some_iff.1 h2).1 (fun e=>hr b e.symm hn)).trans h2⟩
theorem KP.set (h:KP N A B) {bS:Nat} (hS:¬N bS) (i:Nat) (v:Value):KP N A (B.setCell ⟨bS,i,none⟩ v) :=
 ⟨by have:=h.1;simp [World.setCell];omega,fun b cs t f hn hb=>(Below.heap_setCell B ⟨bS,i,none⟩ v b (fun e=>hS (by subst e;exact hn))).trans (h.2 b cs t f hn hb)⟩
theorem KP.put (W:World) (l:Nat) (o o':Obj) (h:W.heap[l]?=some o) (hc:o.isCells=false):KP N W (W.putObj l o') :=
 ⟨by simp [World.putObj],fun b cs t f _ hb=>by
   have:b≠l:=fun e=>by subst e;rw [h] at hb;cases hb;cases hc
   exact (World.putObj_heap_other this).trans hb⟩
theorem KP.below (h:KP N A B) (hb:Below B.heap.size B C):KP N A C:=⟨Nat.le_trans h.1 hb.size,fun b cs t f hn hh=>by have h2:=h.2 b cs t f hn hh;exact (hb.block b (Array.getElem?_eq_some_iff.1 h2).1).trans h2⟩
theorem KP.cell (h:KP N A B) {p:Addr} {v:Value} (hp:N p.block) (hs:p.spot=none) (hc:A.cell? p=some v):B.cell? p=some v:=by
 obtain ⟨b,o,s⟩:=p
 simp only at hs hp
 subst hs
 unfold World.cell? at hc ⊢
 simp only at hc ⊢
 cases hb:A.heap[b]? with
 | none=>rw [hb] at hc;cases hc
 | some ob =>
   rw [hb] at hc
   cases ob with
   | cells cs t f=>rw [h.2 b cs t f hp hb];exact hc
   | _=>cases hc
theorem KP.blk (h:KP N A B) {g:Nat} {t:TypeId} {cs:Array Value} (hg:N g) (hb:Blk A g t cs):Blk B g t cs:=h.2 g cs t (0,0) hg hb
theorem KP.ints (h:KP N A B) {a:Option Addr} {xs:List Int} (hx:Ae A a xs) (ha:xs=[]∨∀q,a=some q→N q.block):Ae B a xs:=by
 refine ⟨hx.1,?_⟩
 rcases ha with h0|ha
 ·exact .inl h0
 refine hx.2.imp id ?_
 rintro ⟨b,off,rfl,hb,hc⟩
 exact ⟨b,off,rfl,Nat.lt_of_lt_of_le hb h.1,fun i hi=>h.cell (p:=⟨b,off+i,none⟩) (ha ⟨b,off,none⟩ rfl) rfl (hc i hi)⟩
theorem KP.pls (h:KP N A B) {a:Option Addr} {xs:List Pl} (hx:Au A a xs) (ha:xs=[]∨∀q,a=some q→N q.block):Au B a xs:=by
 refine ⟨hx.1,?_⟩
 rcases ha with h0|ha
 ·exact .inl h0
 refine hx.2.imp id ?_
 rintro ⟨b,off,rfl,hb,hc⟩
 refine ⟨b,off,rfl,Nat.lt_of_lt_of_le hb h.1,fun i hi j hj=>?_⟩
 have h1:=hc i hi j hj
 have h2:j<(plC xs[i]).length:=by simp [plC];omega
 rw [List.getElem?_eq_getElem h2] at h1 ⊢
 exact h.cell (p:=⟨b,off+i*2+j,none⟩) (ha ⟨b,off,none⟩ rfl) rfl h1
end
theorem run_minC (n:Nat) (W:World):(Builtin.min_ #[3,3] 3 #[.int .i64 (n:Int),.int .i64 (n:Int)]).run prog W=.ok (.int .i64 (n:Int)) W:=by simp [Builtin.min_,Builtin.min2,go_sem]
theorem run_maxC (n:Nat) (W:World):(Builtin.max_ #[3,3] 3 #[.int .i64 (n:Int),.int .i64 (n:Int)]).run prog W=.ok (.int .i64 (n:Int)) W:=by simp [Builtin.max_,Builtin.max2,go_sem]
def chgW (a b:Value) (t:TypeId) (w:World):World:=(w.alloc (.cells #[a] t)).alloc (.cells #[b] t)
theorem chgW_size (a b:Value) (t:TypeId) (w:World):(chgW a b t w).heap.size=w.heap.size+2:=by simp [chgW]
theorem chgW_below (a b:Value) (t:TypeId) (w:World):Below w.heap.size w (chgW a b t w):=((Below.refl _ w).alloc (Nat.le_refl _) _).alloc (by simp) _
theorem chgW_a (a b:Value) (t:TypeId) (w:World):Blk (chgW a b t w) w.heap.size t #[a]:=(Blk.new w _ _).alloc _
theorem chgW_b (a b:Value) (t:TypeId) (w:World):Blk (chgW a b t w) (w.heap.size+1) t #[b]:=Blk.newn _ _ _ (by simp)
theorem Cp7 (W:World) (n:Nat):W.grownBy (W.drewN n) none:=⟨rfl,rfl,rfl,Nat.le_refl _,fun _ _ _=>rfl⟩
theorem chgi_any (pa pb:Option Addr) (n m ca cb:Nat) (w:World):Calls prog 62 #[.slice pa n ca,.slice pb m cb] w fun e w'=>e=.returned (.func (.func 70) #[] #[.pointer (some ⟨w.heap.size,0,none⟩),.pointer (some ⟨w.heap.size+1,0,none⟩)])∧w'=chgW (.slice pa n ca) (.slice pb m cb) 23 w:=by
 go_enter func62,ntmps62
 go_wp2_with fail
 go_ret
 exact ⟨rfl,rfl⟩
theorem chgi_stops (n:Nat) (hn:1≤n) (N:Nat→Prop) (xs ys:List Int) (hl:ys.length=xs.length) (pa pb:Option Addr) (ca cb:Nat) (b1 b2:Nat) (w:World) (h1:Blk w b1 23 #[.slice pa xs.length ca]) (h2:Blk w b2 23 #[.slice pb ys.length cb]) (n1:N b1) (n2:N b2)
 (hx:Ae w pa xs) (hy:Ae w pb ys) (nx:xs=[]∨∀q,pa=some q→N q.block) (ny:ys=[]∨∀q,pb=some q→N q.block) :
 SeqStopsK Fence.wide n prog 70 #[.pointer (some ⟨b1,0,none⟩),.pointer (some ⟨b2,0,none⟩)] (fun z:Fin xs.length=>#[.int .i64 (z.1:Int)]) (KP N) (fun l=>l.map Fin.val=difL xs ys) (fun pre=>pre.map Fin.val <+: difL xs ys) (difL xs ys).length w:=by
 rw [hl] at h2
 intro l J Jx W hWB hJ hJx hY h0
 have hlen:=hx.len
 have hW1:=h1.below hWB h1.lt
 have hW2:=h2.below hWB h2.lt
 have HW1:=hid hW1
 have HW2:=hid hW2
 have HX:=hid (hx.below hWB (Nat.le_refl _))
 have HY2:=hid (hy.below hWB (Nat.le_refl _))
 have HJ:=hid hJ
 have HY:=hid hY
 have H0:=hid h0
 have NX:=hid nx
 have NY:=hid ny
 have HLL:=hid hl
 have c1:=hW1.cell
 have c2:=hW2.cell
 have l1:=hW1.lt
 have l2:=hW2.lt
 have mi:=run_minC xs.length
 have ma:=run_maxC xs.length
 clear hWB hJ hJx hY h0 hx hy nx ny h1 h2 hW1 hW2 hl
 refine callsIn_of_wp func70 rfl trivial ?_ rfl
 simp only [ntmps70,List.size_toArray,List.length_cons,List.length_nil,Nat.reduceAdd,Nat.reduceSub,Array.replicate_succ,Array.replicate_zero,List.push_toArray,List.append_toArray,List.nil_append,List.cons_append]
 gi_wp2
 gi_loopw [5,16] (fun _ k wr=>∃(m:Nat) (pre:List (Fin xs.length)),k=.int .i64 m∧m≤xs.length∧pre.map Fin.val=difTo xs ys m∧J pre wr∧KP N W wr) (fun _ k _=>xs.length-(intOf k).toNat)
 case atStart=>exact ⟨0,[],rfl,Nat.zero_le _,rfl,H0.out,KP.refl _⟩
 case round =>
  obtain ⟨m,pre,rfl,hm,hpre,hJp,hk⟩:=hrel
  have HPRE:=hid hpre
  have HJP:=hid hJp
  have HK:=hid hk
  clear hJp hpre c1 c2 l1 l2 H0
  by_cases hlt:m<xs.length
  ·have hlt2:m<ys.length:=by have:=HLL.out;omega
   have d1:=(hk.blk n1 HW1.out).cell
   have d2:=(hk.blk n2 HW2.out).cell
   have e1:=(hk.blk n1 HW1.out).lt
   have e2:=(hk.blk n2 HW2.out).lt
   obtain ⟨xb,xo,rfl,hxb,hxc⟩:=(hk.ints HX.out NX.out).at_ hlt
   obtain ⟨yb,yo,rfl,hyb,hyc⟩:=(hk.ints HY2.out NY.out).at_ hlt2
   have u0:=hxc m hlt
   have u1:=hyc m hlt2
   clear hxc hyc
   have hw:IntKind.i64.wrap ((m:Int)+1)=(m:Int)+1:=IntWalk.i64_in _ (by omega)
   have hq:(m:Int)<(xs.length:Int):=by omega
   have ES:=hid (fun e:xs[m]=ys[m]=>difTo_same (xs:=xs) (ys:=ys) (n:=m) (by rw [List.getElem?_eq_getElem hlt,List.getElem?_eq_getElem hlt2,e]))
   have EM:=hid (fun e:¬xs[m]=ys[m]=>difTo_more (xs:=xs) (ys:=ys) (n:=m) (by rw [List.getElem?_eq_getElem hlt,List.getElem?_eq_getElem hlt2];simpa using e))
   have EP:=hid (difTo_pre (xs:=xs) (ys:=ys) (n:=m+1) (m:=xs.length) hlt)
   clear hk
   generalize xs[m]=a1 at *
   generalize ys[m]=a2 at *
   by_cases he:a1=a2
   ·have HE:=hid (ES.out he)
    have q0:(a1==a2)=true:=by simpa using he
    clear he ES EM EP HY
    gi_wp2
    gi_big_quiet_th (fail)
    gi_wp2
    go_roundw
    case rel=>exact ⟨m+1,pre,by go_num,by omega,by rw [HE.out];exact HPRE.out,HJ.out _ _ _ none HJP.out (Cp7 wr nq) (fun r e=>by cases e),HK.out.below (Ib (Below.refl _ _) _)⟩
    case measure=>simp [intOf];omega
   ·have HE:=hid (EM.out he)
    have q0:(a1==a2)=false:=by simpa using he
    clear he ES EM
    have YV:=hid (fun nq=>HY.out pre ⟨m,hlt⟩ (wr.drewN nq) (HJ.out _ _ _ none HJP.out (Cp7 wr nq) (fun r e=>by cases e)) (by
     have:=EP.out.length_le
     rw [HE.out,List.length_append,←HPRE.out,List.length_map] at this
     simp [difL] at this ⊢;omega))
    have HP2:=hid (show (pre++[(⟨m,hlt⟩:Fin xs.length)]).map Fin.val=difTo xs ys (m+1) by rw [HE.out,List.map_append,HPRE.out];rfl)
    clear HY
    gi_wp2
    gi_big_quiet_th (fail)
    obtain ⟨fn,tmps,assign,body,hy,hR⟩:=YV.out nq
    have HRR:=hid hR
    clear hR
    gi_wp2
    refine HRR.out.mono ?_
    rintro e W3 (⟨rfl,hJ3,hk3⟩|⟨rfl,hJx3⟩)
    ·have HK3:=hid hk3
     have HJ3:=hid hJ3
     clear hk3 hJ3 HRR YV hy
     gi_wp2
     go_roundw
     case rel=>exact ⟨m+1,_,by go_num,by omega,HP2.out,HJ3.out,(HK.out.below (Ib (Below.refl _ _) _)).trans HK3.out⟩
     case measure=>simp [intOf];omega
    ·have HJX:=hid hJx3
     clear hJx3 HRR YV hy
     gi_wp2
     refine bodyPost_ret (results_none rfl _ _ _) rfl ?_
     exact ⟨⟨_,rfl⟩,.inr ⟨_,by rw [HP2.out];exact EP.out,HJX.out⟩⟩
  ·have hme:m=xs.length:=by omega
   subst hme
   have d1:=(hk.blk n1 HW1.out).cell
   have d2:=(hk.blk n2 HW2.out).cell
   have e1:=(hk.blk n1 HW1.out).lt
   have e2:=(hk.blk n2 HW2.out).lt
   clear hk
   gi_wp2
   refine bodyPost_end (results_none rfl _ _ _) rfl ?_
   exact ⟨⟨_,rfl⟩,.inl ⟨_,HPRE.out,HJP.out⟩⟩
theorem chgp_any (pa pb:Option Addr) (n m ca cb:Nat) (w:World):Calls prog 63 #[.slice pa n ca,.slice pb m cb] w fun e w'=>e=.returned (.func (.func 71) #[] #[.pointer (some ⟨w.heap.size,0,none⟩),.pointer (some ⟨w.heap.size+1,0,none⟩)])∧w'=chgW (.slice pa n ca) (.slice pb m cb) 27 w:=by
 go_enter func63,ntmps63
 go_wp2_with fail
 go_ret
 exact ⟨rfl,rfl⟩
theorem chgp_stops (n:Nat) (hn:1≤n) (N:Nat→Prop) (xs ys:List Pl) (hl:ys.length=xs.length) (pa pb:Option Addr) (ca cb:Nat) (b1 b2:Nat) (w:World) (h1:Blk w b1 27 #[.slice pa xs.length ca]) (h2:Blk w b2 27 #[.slice pb ys.length cb]) (n1:N b1) (n2:N b2)
 (hx:Au w pa xs) (hy:Au w pb ys) (nx:xs=[]∨∀q,pa=some q→N q.block) (ny:ys=[]∨∀q,pb=some q→N q.block) :
 SeqStopsK Fence.wide n prog 71 #[.pointer (some ⟨b1,0,none⟩),.pointer (some ⟨b2,0,none⟩)] (fun z:Fin xs.length=>#[.int .i64 (z.1:Int)]) (KP N) (fun l=>l.map Fin.val=difL xs ys) (fun pre=>pre.map Fin.val <+: difL xs ys) (difL xs ys).length w:=by
 rw [hl] at h2
 intro l J Jx W hWB hJ hJx hY h0
 have hlen:=hx.len
 have hW1:=h1.below hWB h1.lt
 have hW2:=h2.below hWB h2.lt
 have HW1:=hid hW1
 have HW2:=hid hW2
 have HX:=hid (hx.below hWB (Nat.le_refl _))
 have HY2:=hid (hy.below hWB (Nat.le_refl _))
 have HJ:=hid hJ
 have HY:=hid hY
 have H0:=hid h0
 have NX:=hid nx
 have NY:=hid ny
 have HLL:=hid hl
 have c1:=hW1.cell
 have c2:=hW2.cell
 have l1:=hW1.lt
 have l2:=hW2.lt
 have mi:=run_minC xs.length
 have ma:=run_maxC xs.length
 clear hWB hJ hJx hY h0 hx hy nx ny h1 h2 hW1 hW2 hl
 refine callsIn_of_wp func71 rfl trivial ?_ rfl
 simp only [ntmps71,List.size_toArray,List.length_cons,List.length_nil,Nat.reduceAdd,Nat.reduceSub,Array.replicate_succ,Array.replicate_zero,List.push_toArray,List.append_toArray,List.nil_append,List.cons_append]
 gi_wp2
 gi_loopw [5,16] (fun _ k wr=>∃(m:Nat) (pre:List (Fin xs.length)),k=.int .i64 m∧m≤xs.length∧pre.map Fin.val=difTo xs ys m∧J pre wr∧KP N W wr) (fun _ k _=>xs.length-(intOf k).toNat)
 case atStart=>exact ⟨0,[],rfl,Nat.zero_le _,rfl,H0.out,KP.refl _⟩
 case round =>
  obtain ⟨m,pre,rfl,hm,hpre,hJp,hk⟩:=hrel
  have HPRE:=hid hpre
  have HJP:=hid hJp
  have HK:=hid hk
  clear hJp hpre c1 c2 l1 l2 H0
  by_cases hlt:m<xs.length
  ·have hlt2:m<ys.length:=by have:=HLL.out;omega
   have d1:=(hk.blk n1 HW1.out).cell
   have d2:=(hk.blk n2 HW2.out).cell
   have e1:=(hk.blk n1 HW1.out).lt
   have e2:=(hk.blk n2 HW2.out).lt
   obtain ⟨xb,xo,rfl,hxb,u0,u1⟩:=(hk.pls HX.out NX.out).cells hlt
   obtain ⟨yb,yo,rfl,hyb,u2,u3⟩:=(hk.pls HY2.out NY.out).cells hlt2
   have hw:IntKind.i64.wrap ((m:Int)+1)=(m:Int)+1:=IntWalk.i64_in _ (by omega)
   have hq:(m:Int)<(xs.length:Int):=by omega
   have ES:=hid (fun e:xs[m]=ys[m]=>difTo_same (xs:=xs) (ys:=ys) (n:=m) (by rw [List.getElem?_eq_getElem hlt,List.getElem?_eq_getElem hlt2,e]))
   have EM:=hid (fun e:¬xs[m]=ys[m]=>difTo_more (xs:=xs) (ys:=ys) (n:=m) (by rw [List.getElem?_eq_getElem hlt,List.getElem?_eq_getElem hlt2];simpa using e))
   have EP:=hid (difTo_pre (xs:=xs) (ys:=ys) (n:=m+1) (m:=xs.length) hlt)
   clear hk
   generalize xs[m]=a1 at *
   generalize ys[m]=a2 at *
   obtain ⟨x0,x1⟩:=a1
   obtain ⟨y0,y1⟩:=a2
   simp only at u0 u1 u2 u3
   have hrun:=Ey x0 x1 y0 y1
   by_cases he:(⟨x0,x1⟩:Pl)=⟨y0,y1⟩
   ·have HE:=hid (ES.out he)
    simp only [he,decide_true] at hrun
    clear he ES EM EP HY
    gi_wp2
    gi_big_quiet_th (fail)
    gi_wp2
    go_roundw
    case rel=>exact ⟨m+1,pre,by go_num,by omega,by rw [HE.out];exact HPRE.out,HJ.out _ _ _ none HJP.out (Cp7 wr nq) (fun r e=>by cases e),HK.out.below (Ib (Below.refl _ _) _)⟩
    case measure=>simp [intOf];omega
   ·have HE:=hid (EM.out he)
    simp only [he,decide_false] at hrun
    clear he ES EM
    have YV:=hid (fun nq=>HY.out pre ⟨m,hlt⟩ (wr.drewN nq) (HJ.out _ _ _ none HJP.out (Cp7 wr nq) (fun r e=>by cases e)) (by
     have:=EP.out.length_le
     rw [HE.out,List.length_append,←HPRE.out,List.length_map] at this
     simp [difL] at this ⊢;omega))
    have HP2:=hid (show (pre++[(⟨m,hlt⟩:Fin xs.length)]).map Fin.val=difTo xs ys (m+1) by rw [HE.out,List.map_append,HPRE.out];rfl)
    clear HY
    gi_wp2
    gi_big_quiet_th (fail)
    obtain ⟨fn,tmps,assign,body,hy,hR⟩:=YV.out nq
    have HRR:=hid hR
    clear hR
    gi_wp2
    refine HRR.out.mono ?_
    rintro e W3 (⟨rfl,hJ3,hk3⟩|⟨rfl,hJx3⟩)
    ·have HK3:=hid hk3
     have HJ3:=hid hJ3
     clear hk3 hJ3 HRR YV hy
     gi_wp2
     go_roundw
     case rel=>exact ⟨m+1,_,by go_num,by omega,HP2.out,HJ3.out,(HK.out.below (Ib (Below.refl _ _) _)).trans HK3.out⟩
     case measure=>simp [intOf];omega
    ·have HJX:=hid hJx3
     clear hJx3 HRR YV hy
     gi_wp2
     refine bodyPost_ret (results_none rfl _ _ _) rfl ?_
     exact ⟨⟨_,rfl⟩,.inr ⟨_,by rw [HP2.out];exact EP.out,HJX.out⟩⟩
  ·have hme:m=xs.length:=by omega
   subst hme
   have d1:=(hk.blk n1 HW1.out).cell
   have d2:=(hk.blk n2 HW2.out).cell
   have e1:=(hk.blk n1 HW1.out).lt
   have e2:=(hk.blk n2 HW2.out).lt
   clear hk
   gi_wp2
   refine bodyPost_end (results_none rfl _ _ _) rfl ?_
   exact ⟨⟨_,rfl⟩,.inl ⟨_,HPRE.out,HJP.out⟩⟩
end
section
open Go.RowKit Go
theorem fstep_append {P:Program} {ops:Array Oper} {o:Oper} {a:Act} {w:World} {K:Act→World→Prop} {Q:Exit→Act→World→Prop} {E:Prop}
 (hg:o.guard=none) (s x:Operand) (t:TypeId) (hop:o.op=Op.call { callee:=Callee.builtin Builtin.append,args:=#[s,x],argTypes:=#[t,t] })
 (v u v':Value) (w':World) (hs:a.eval s=v) (hx:a.eval x=u) (hrun:(Builtin.append_ #[t,t] o.type #[v,u]).run P w=.ok v' w')
 (hK:K (a.put o.dst v') w'):if Region.wanted o (yielded ops a.tmps)=true then Oper.wp P o a w K Q else E:=by
 rw [if_pos (by simp [Region.wanted,hg])]
 unfold Oper.wp
 simp [execOp,hop,resolve,invoke,builtin,hs,hx,hrun,Result.andThen]
 exact hK
theorem keyF_info:(prog.info? 47).map (fun i=>(i.zero,i.size,i.bytes))=some (some (.agg #[.int .i64 0,.int .i64 0]),2,16):=by kernel_rfl
theorem flat_size {α β:Type} {k:Nat} {enc:α→List β} (he:∀x,(enc x).length=k) (l:List α):(l.flatMap enc).length=l.length*k:=by
 induction l with
 | nil=>simp
 | cons a l ih=>rw [List.flatMap_cons,List.length_append,ih,he,List.length_cons,Nat.add_mul];omega
theorem plC_one' (x:Pl):∀u∈plC x,u.oneCell'=true:=by intro u hu;simp [plC] at hu;rcases hu with rfl|rfl<;>rfl
section
variable {α:Type} {P:Program} {W W':World} {k n:Nat} {e:TypeId} {enc:α→List Value} {v:Value} {xs:List α}
theorem Dt.many {t:TypeId} {bytes:Nat} {z:Value} (hu:P.underlying t=some (.slice e)) (hinfo:(P.info? e).map (fun i=>(i.zero,i.size,i.bytes))=some (some z,k,bytes))
 (hz:z.cells.size=k) (hk:0<k) (hby:bytes≤64) (he:∀x,(enc x).length=k) (hone:∀x,∀u∈enc x,u.oneCell'=true) (h:Dt k e enc n W v xs) (ys:List α) (hl:xs.length+ys.length≤1000000) (hb:n≤W.heap.size) :
 ∃v' W',(Builtin.append_ #[t,t] t #[v,.slice (some ⟨W.heap.size,0,none⟩) ys.length ys.length]).run P (W.alloc (.cells (ys.flatMap enc).toArray e))=.ok v' W'∧Dt k e enc n W' v' (xs++ys)∧W.grownBy W' v.ownBlock:=by
 obtain ⟨i0,hi0,hz0,hz1,hz2⟩:=info_parts hinfo
 obtain ⟨v',W',hr,h1,h2,-,h4⟩:=run_append_own_at (P:=P) (W.alloc (.cells (ys.flatMap enc).toArray e)) n t t e i0 z k bytes hu hi0 hz0 hz1 hz2 hz hk v xs.length (xs.flatMap enc) (World.ownsRow.kept h (World.grownBy_alloc W _ none) (by cases v.ownBlock<;>simp)) ⟨W.heap.size,0,none⟩ ys.length ys.length (ys.flatMap enc) (flat_size he ys)
  (fun j u hj=>by
    have e:((⟨W.heap.size,0,none⟩:Addr).add j)=⟨W.heap.size,j,none⟩:=by by_cases h0:j=0<;>simp [Addr.add,h0]
    rw [e,World.cell?_alloc_at _ _ _ _ rfl]
    simpa using hj) (fun u hu=>by rw [List.mem_flatMap] at hu;obtain ⟨x,_,hx⟩:=hu;exact hone x u hx) (by unfold maxLen;omega) (Nat.le_trans (Nat.mul_le_mul hl hby) (by decide)) (by simp;omega)
 refine ⟨v',W',hr,?_,Vs (World.grownBy_alloc W _ v.ownBlock) h2 (.inl rfl)⟩
 unfold Dt
 rw [List.length_append,List.flatMap_append]
 exact h1
theorem Dt.form (h:Dt k e enc n W v xs):∃a m c,v=.slice a m c:=by
 rcases h.2 with ⟨rfl,h0⟩|⟨q,c,cur,rfl,hq,hh,_⟩
 ·exact ⟨_,_,_,rfl⟩
 ·exact ⟨_,_,_,rfl⟩
theorem Dt.block (h:Dt k e enc n W v xs) {g:Nat} (hg:v.ownBlock=some g):n≤g∧∃cur,Blk W g e cur:=by
 rcases h.2 with ⟨rfl,h0⟩|⟨q,c,cur,rfl,hq,hh,_⟩
 ·simp [Value.ownBlock] at hg
 ·simp only [Value.ownBlock,Option.some.injEq] at hg
  subst hg
  exact ⟨hq,cur,hh⟩
theorem Dt.apart_ty (h:Dt k e enc n W v xs) {g:Nat} {t:TypeId} {cs:Array Value} (hb:Blk W g t cs) (ht:t≠e):some g≠v.ownBlock:=fun hc=>by
 obtain ⟨_,cur,hh⟩:=h.block hc.symm
 unfold Blk at hb hh
 rw [hb] at hh
 simp only [Option.some.injEq,Obj.cells.injEq] at hh
 exact ht hh.2.1
theorem Dt.apart_ob (h:Dt k e enc n W v xs) {g:Nat} {o:Obj} (hb:W.heap[g]?=some o) (ho:o.isCells=false):some g≠v.ownBlock:=fun hc=>by
 obtain ⟨_,cur,hh⟩:=h.block hc.symm
 unfold Blk at hh
 rw [hb] at hh
 cases hh
 cases ho
theorem Dt.grown (h:Dt k e enc n W v xs) {row:Option Nat} (hg:W.grownBy W' row) (hr:∀r,row=some r→v.ownBlock≠some r):Dt k e enc n W' v xs :=
 World.ownsRow.kept h hg (by
  cases hv:v.ownBlock with
  | none=>exact .inl rfl
  | some g=>exact .inr (fun e=>hr g e.symm hv))
end
structure Nd (w:World) (x:Wd) (p:Wp) (y:Wd) (q:Wp) (B:Nat) (ty:TypeId) (a1 a2:Value) (Ds:List Nat) (v:Value) (L:List Pl) (W:World):Prop where
 b:Below w.heap.size w W
 h0:Blk W w.heap.size 29 (wC x p)
 h1:Blk W (w.heap.size+1) 29 (wC y q)
 hv:Blk W (w.heap.size+1+1) 32 #[v]
 g:Dt 2 47 plC (w.heap.size+3) W v L
 b1:Blk W B ty #[a1]
 b2:Blk W (B+1) ty #[a2]
 ds:∀D∈Ds,W.heap[D]?=some (.deferred (some []))
section
variable {w:World} {x y:Wd} {p q:Wp} {B:Nat} {ty:TypeId} {a1 a2 v v':Value} {Ds:List Nat} {L L':List Pl} {W W':World}
theorem Nd.call (h:Nd w x p y q B ty a1 a2 Ds v L W) (hb:Below W.heap.size W W'):Nd w x p y q B ty a1 a2 Ds v L W' :=
 ⟨h.b.trans (hb.mono h.b.size),h.h0.call hb,h.h1.call hb,h.hv.call hb,h.g.call hb,h.b1.call hb,h.b2.call hb,fun D hD=>by
   have:=h.ds D hD
   exact (hb.block D (Array.getElem?_eq_some_iff.1 this).1).trans this⟩
theorem Nd.kept {B0:Nat} {row:Option Nat} (h:Nd w x p y q B ty a1 a2 Ds v L W) (hg:W.grownBy W' row) (hr:∀r,row=some r→B0≤r∧∃o:Obj,W.heap[r]?=some o∧o.isCells=false) (hB:w.heap.size≤B0) (hD:∀D∈Ds,D<B0) :
 Nd w x p y q B ty a1 a2 Ds v L W':=by
 have hbk:∀{g:Nat} {t:TypeId} {cs:Array Value},Blk W g t cs→Blk W' g t cs:=fun hh=>hh.grown hg (fun e=>by
  obtain ⟨_,o,ho,hc⟩:=hr _ e.symm
  rw [show W.heap[_]?=_ from hh] at ho
  cases ho;cases hc)
 refine ⟨h.b.grown hg h.b.size (fun k e=>Nat.le_trans hB (hr k e).1),hbk h.h0,hbk h.h1,hbk h.hv,h.g.grown hg (fun r e ev=>?_),hbk h.b1,hbk h.b2,fun D hD2=>?_⟩
 ·obtain ⟨_,o,ho,hc⟩:=hr r e
  exact h.g.apart_ob ho hc ev.symm
 ·have:=h.ds D hD2
  exact (hg.block D (Array.getElem?_eq_some_iff.1 this).1 (fun e=>by have:=(hr D e.symm).1;have:=hD D hD2;omega)).trans this
theorem Nd.mid (h:Nd w x p y q B ty a1 a2 Ds v L W) (hg:W.grownBy W' v.ownBlock):Blk W' (w.heap.size+1+1) 32 #[v]:=h.hv.grown hg (h.g.apart_ty h.hv (by decide))
theorem Nd.put (h:Nd w x p y q B ty a1 a2 Ds v L W) (hty:ty≠47) (hB:w.heap.size+3≤B) (hg:W.grownBy W' v.ownBlock) (hG:Dt 2 47 plC (w.heap.size+3) W' v' L') :
 Nd w x p y q B ty a1 a2 Ds v' L' (W'.setCell ⟨w.heap.size+1+1,0,none⟩ v'):=by
 have hm:=h.mid hg
 have hs:=grownBy_setCell' W' (w.heap.size+1+1) v'
 have hne:∀{g:Nat} {t:TypeId} {cs:Array Value},Blk W g t cs→t≠47→g≠w.heap.size+1+1→Blk (W'.setCell ⟨w.heap.size+1+1,0,none⟩ v') g t cs:=fun hh ht hn =>
  (hh.grown hg (h.g.apart_ty hh ht)).far hn _
 refine ⟨(h.b.grown hg h.b.size (fun k e=>by have:=(h.g.block e).1;omega)).setCell (by show w.heap.size≤w.heap.size+1+1;omega) _,hne h.h0 (by decide) (by omega),hne h.h1 (by decide) (by omega),hm.set_ 0 _,hG.grown hs (fun r e ev=>by cases e;have:=(hG.block ev).1;omega),hne h.b1 hty (by omega),hne h.b2 hty (by omega),fun D hD=>?_⟩
 have h1:=h.ds D hD
 have h2:=(hg.block D (Array.getElem?_eq_some_iff.1 h1).1 (h.g.apart_ob h1 rfl)).trans h1
 refine (Below.heap_setCell W' _ v' D (fun e=>?_)).trans h2
 have e':D=w.heap.size+1+1:=e
 subst e'
 rw [show W'.heap[_]?=_ from hm] at h2
 cases h2
def NN (w:World) (B:Nat) (b:Nat):Prop:=b<w.heap.size∨b=B∨b=B+1
theorem Nd.kp {W0:World} (h:Nd w x p y q B ty a1 a2 Ds v L W) (hty:ty≠47) (hB:w.heap.size+3≤B) (hg:W.grownBy W' v.ownBlock) (h0:KP (NN w B) W0 W):KP (NN w B) W0 (W'.setCell ⟨w.heap.size+1+1,0,none⟩ v') :=
 (h0.grown hg (fun b e hn=>by
   rcases hn with hn|hn|hn
   ·have:=(h.g.block e).1;omega
   ·subst hn;exact h.g.apart_ty h.b1 hty e.symm
   ·subst hn;exact h.g.apart_ty h.b2 hty e.symm)).set (by unfold NN;omega) 0 v'
theorem keeps_call (hb:Below W.heap.size W W'):KeepsOthers W W':=⟨hb.size,fun k o hk _=>(hb.block k (Array.getElem?_eq_some_iff.1 hk).1).trans hk⟩
theorem Nd.keeps (h:Nd w x p y q B ty a1 a2 Ds v L W) (hg:W.grownBy W' v.ownBlock):KeepsOthers W (W'.setCell ⟨w.heap.size+1+1,0,none⟩ v') :=
 (KeepsOthers.of_grownBy hg (fun j o e ho=>by
   obtain ⟨_,cur,hh⟩:=h.g.block e
   rw [show W.heap[_]?=_ from hh] at ho
   cases ho;rfl)).trans (KeepsOthers.setCell _ _ _)
theorem Nd.drew (h:Nd w x p y q B ty a1 a2 Ds v L W):Nd w x p y q B ty a1 a2 Ds v L W.drew:=h.call (Af (Below.refl _ _))
def SW (w:World) (x:Wd) (p:Wp) (y:Wd) (q:Wp) (W:World):Prop:=(∀i,W.cell? ⟨w.heap.size,i,none⟩=((wC x p)[i]?:Option Value))∧∀i,W.cell? ⟨w.heap.size+1,i,none⟩=((wC y q)[i]?:Option Value)
theorem Nd.S (h:Nd w x p y q B ty a1 a2 Ds v L W):SW w x p y q W:=⟨h.h0.cell,h.h1.cell⟩
theorem Nd.midS (h:Nd w x p y q B ty a1 a2 Ds v L W) (hg:W.grownBy W' v.ownBlock):SW w x p y q W':=⟨(h.h0.grown hg (h.g.apart_ty h.h0 (by decide))).cell,(h.h1.grown hg (h.g.apart_ty h.h1 (by decide))).cell⟩
theorem Nd.fin {W0:World} {B0:Nat} (h:Nd w x p y q B ty a1 a2 Ds v L W) (hb:Below W0.heap.size W0 W) (hty:ty≠47) (hB:w.heap.size+3≤B) (hg:W.grownBy W' v.ownBlock) (hG:Dt 2 47 plC (w.heap.size+3) W' v' L') :
 KeepsFrom B0 W0 (W'.setCell ⟨w.heap.size+1+1,0,none⟩ v')∧KP (NN w B) W0 (W'.setCell ⟨w.heap.size+1+1,0,none⟩ v')∧Nd w x p y q B ty a1 a2 Ds v' L' (W'.setCell ⟨w.heap.size+1+1,0,none⟩ v') :=
 ⟨((keeps_call hb).trans (h.keeps hg)).from _,h.kp hty hB hg ((KP.refl W0).below hb),h.put hty hB hg hG⟩
theorem put_df {W:World} {D E:Nat} {o:Obj} (hE:W.heap[E]?=some (.deferred (some []))) (hn:E≠D):(W.putObj D o).heap[E]?=some (.deferred (some [])):=(World.putObj_heap_other hn).trans hE
theorem Nd.end3 {D1 D2 D3:Nat} (h:Nd w x p y q B ty a1 a2 [D2,D1] v L W) (hK:W.heap[D3]?=some (.deferred (some []))) (h1:w.heap.size≤D1) (h2:D1<D2) (h3:D2<D3) :
 (W.putObj D3 (.deferred none)).heap[D2]?=some (.deferred (some []))∧((W.putObj D3 (.deferred none)).putObj D2 (.deferred none)).heap[D1]?=some (.deferred (some [])) ∧
   ∃a c,v=.slice a L.length c∧Au (((W.putObj D3 (.deferred none)).putObj D2 (.deferred none)).putObj D1 (.deferred none)) a L∧Below w.heap.size w (((W.putObj D3 (.deferred none)).putObj D2 (.deferred none)).putObj D1 (.deferred none)):=by
 have k2:=put_df (o:=.deferred none) (h.ds D2 (by simp)) (show D2≠D3 by omega)
 have k1:=put_df (o:=.deferred none) (put_df (o:=.deferred none) (h.ds D1 (by simp)) (show D1≠D3 by omega)) (show D1≠D2 by omega)
 have g1:=h.g.grown (grownBy_putObj' W D3 (.deferred none)) (fun r e ev=>by cases e;exact h.g.apart_ob hK rfl ev.symm)
 have g2:=g1.grown (grownBy_putObj' _ D2 (.deferred none)) (fun r e ev=>by cases e;exact g1.apart_ob k2 rfl ev.symm)
 have g3:=g2.grown (grownBy_putObj' _ D1 (.deferred none)) (fun r e ev=>by cases e;exact g2.apart_ob k1 rfl ev.symm)
 obtain ⟨a,c,rfl,hO⟩:=g3.own Ni
 exact ⟨k2,k1,a,c,rfl,hO.row,((h.b.trans (belowK_b (w:=w) (Nat.le_refl _) _ D3 _ _ (by omega) hK rfl rfl)).trans (belowK_b (w:=w) (Nat.le_refl _) _ D2 _ _ (by omega) k2 rfl rfl)).trans (belowK_b (w:=w) (Nat.le_refl _) _ D1 _ _ h1 k1 rfl rfl)⟩
end
theorem rootkey_any (x:Wd) (p:Wp) (hT:Tr x.wher) (i:Nat) (hi:i<x.wher.length) (w:World) (hr:Au w p.wh x.wher):Calls prog 64 #[.agg (wC x p),.int .i64 (i:Int)] w fun e w'=>e=.returned (.agg #[.int .i64 (Bh x.wher i).kind,.int .i64 (Bh x.wher i).id])∧Below w.heap.size w w':=by
 have HB:=hid (Fk9 w (wC x p) #[.int .i64 0,.int .i64 0] 29 47)
 have HK:=hid (Blk.newn (w.alloc (.cells (wC x p) 29)) 47 #[.int .i64 0,.int .i64 0] (n:=w.heap.size+1) (by simp))
 have HR:=hid hr
 have HT:=hid hT
 obtain ⟨⟨z0,z1⟩,hz⟩:∃z,Bh x.wher i=z:=⟨_,rfl⟩
 rw [hz]
 have HZ:=hid hz
 clear hr hT hz
 have hWC:=@wC.eq_1
 go_enter func64,ntmps64
 go_wp2_with fail
 refine (Gr x p HT.out i hi _ (HR.out.below HB.out (Nat.le_refl _))).mono ?_
 rintro e w1 ⟨rfl,b1⟩
 rw [HZ.out]
 have HB1:=hid (bl HB.out b1)
 have HK1:=hid (HK.out.call b1)
 have c2:=HK1.out.cell
 have f2:=HK1.out.frozen
 have l2:=HK1.out.lt
 clear b1 HB HK
 go_wp2_with fail
 have c5:=(((HK1.out.set_ 0 (.int .i64 z0)).set_ 1 (.int .i64 z1)).alloc (.cells #[.int .i64 z0,.int .i64 z1] 52)).cell
 have HB2:=(HB1.out.setCell (p:=⟨w.heap.size+1,0,none⟩) (by show w.heap.size≤w.heap.size+1;omega) (.int .i64 z0)).setCell (p:=⟨w.heap.size+1,1,none⟩) (by show w.heap.size≤w.heap.size+1;omega) (.int .i64 z1)
 refine bodyPost_ret (v:=.agg #[.int .i64 z0,.int .i64 z1]) (by simp [results,results64,go_sem,c5]) rfl ?_
 exact ⟨rfl,HB2.alloc HB2.size _⟩
end
section
open Go.RowKit Go
attribute [local go_sem] Oper.semAt_some
theorem nn_ints {w:World} {a:Option Addr} {xs:List Int} (B:Nat) (h:Ae w a xs):xs=[]∨∀q,a=some q→NN w B q.block:=h.2.imp id (by
 rintro ⟨b,off,rfl,hb,_⟩ q hq
 cases hq
 exact .inl hb)
theorem nn_pls {w:World} {a:Option Addr} {xs:List Pl} (B:Nat) (h:Au w a xs):xs=[]∨∀q,a=some q→NN w B q.block:=h.2.imp id (by
 rintro ⟨b,off,rfl,hb,_⟩ q hq
 cases hq
 exact .inl hb)
theorem len_pre {n:Nat} (f:Nat→List Pl) (c:Nat) (h:∀z,(f z).length=c) (pre:List (Fin n)):((pre.map Fin.val).flatMap f).length=pre.length*c:=by
 rw [flat_size h,List.length_map]
theorem pre_snoc {n:Nat} (f:Nat→List Pl) (pre:List (Fin n)) (z:Fin n) (L:List Pl):L++((pre++[z]).map Fin.val).flatMap f=(L++(pre.map Fin.val).flatMap f)++f z.1:=by simp
theorem need_any (x y:Wd) (p q:Wp) (w:World) (hx:Tr x.wher) (hy:Tr y.wher) (h1:y.at_.length=x.at_.length) (h2:y.coins.length=x.coins.length) (h3:y.wher.length=x.wher.length) (hsz:x.at_.length+x.coins.length+2*x.wher.length≤100000) (hp:Ab w p x) (hq:Ab w q y) :
 Calls prog 39 #[.agg (wC x p),.agg (wC y q)] w fun e w'=>∃(a:Option Addr) (c:Nat),e=.returned (.slice a (needL x y).length c)∧Au w' a (needL x y)∧Below w.heap.size w w':=by
 have HP:=hid hp
 have HQ:=hid hq
 have HX:=hid hx
 have HY:=hid hy
 have L1:=hid h1
 have L2:=hid h2
 have L3:=hid h3
 have HSZ:=hid hsz
 clear hp hq hx hy h1 h2 h3 hsz
 refine (callsIn_wide (n:=6)).1 ?_
 refine callsIn_of_wp_marks func39 rfl trivial ?_ rfl
 simp only [ntmps39,List.size_toArray,List.length_cons,List.length_nil,Nat.reduceAdd,Nat.reduceSub,Array.replicate_succ,Array.replicate_zero,List.push_toArray,List.append_toArray,List.nil_append,List.cons_append]
 have hb0:Below w.heap.size w (((w.alloc (.cells (wC x p) 29)).alloc (.cells (wC y q) 29)).alloc (.cells #[.slice none 0 0] 32)):=(((Below.refl _ w).alloc (Nat.le_refl _) _).alloc (by simp) _).alloc (by simp;omega) _
 have k0:=((Blk.new w 29 (wC x p)).alloc (.cells (wC y q) 29)).alloc (.cells #[.slice none 0 0] 32)
 have k1:=(Blk.newn (w.alloc (.cells (wC x p) 29)) 29 (wC y q) (n:=w.heap.size+1) (by simp)).alloc (.cells #[.slice none 0 0] 32)
 have k2:=Blk.newn ((w.alloc (.cells (wC x p) 29)).alloc (.cells (wC y q) 29)) 32 #[.slice none 0 0] (n:=w.heap.size+1+1) (by simp)
 have y0:(((w.alloc (.cells (wC x p) 29)).alloc (.cells (wC y q) 29)).alloc (.cells #[.slice none 0 0] 32)).heap.size=w.heap.size+1+1+1:=by simp
 gi_wp2_with (refine ⟨trivial,?_⟩;gi_at_call 62;refine (callsIn_wide.2 (chgi_any _ _ _ _ _ _ _)).mono ?_;rintro e w' ⟨rfl,rfl⟩)
 have cb:=chgW_below (.slice p.at_ x.at_.length p.atc) (.slice q.at_ y.at_.length q.atc) 23 (((w.alloc (.cells (wC x p) 29)).alloc (.cells (wC y q) 29)).alloc (.cells #[.slice none 0 0] 32))
 have ca:=chgW_a (.slice p.at_ x.at_.length p.atc) (.slice q.at_ y.at_.length q.atc) 23 (((w.alloc (.cells (wC x p) 29)).alloc (.cells (wC y q) 29)).alloc (.cells #[.slice none 0 0] 32))
 have cc:=chgW_b (.slice p.at_ x.at_.length p.atc) (.slice q.at_ y.at_.length q.atc) 23 (((w.alloc (.cells (wC x p) 29)).alloc (.cells (wC y q) 29)).alloc (.cells #[.slice none 0 0] 32))
 rw [y0] at ca cc
 have nd:Nd w x p y q (w.heap.size+1+1+1) 23 (.slice p.at_ x.at_.length p.atc) (.slice q.at_ y.at_.length q.atc) [] (.slice none 0 0) [] (chgW (.slice p.at_ x.at_.length p.atc) (.slice q.at_ y.at_.length q.atc) 23 (((w.alloc (.cells (wC x p) 29)).alloc (.cells (wC y q) 29)).alloc (.cells #[.slice none 0 0] 32))):=⟨hb0.trans (cb.mono hb0.size),k0.call cb,k1.call cb,k2.call cb,Dt.nil _,ca,cc,by simp⟩
 have hB3:w.heap.size+3≤w.heap.size+1+1+1:=by omega
 generalize chgW (.slice p.at_ x.at_.length p.atc) (.slice q.at_ y.at_.length q.atc) 23 (((w.alloc (.cells (wC x p) 29)).alloc (.cells (wC y q) 29)).alloc (.cells #[.slice none 0 0] 32))=V1 at *
 clear hb0 k0 k1 k2 y0 ca cb cc
 have HB3:=hid hB3
 clear hB3
 have hD:∀D∈([]:List Nat),D<V1.heap.size:=fun D hD=>(Array.getElem?_eq_some_iff.1 (nd.ds D hD)).1
 have HD:=hid hD
 clear hD
 have hbw:=nd.b
 refine wpIn_rangeFunc_ownH rfl (by omega) (gf:=70) (lb:=#[.pointer (some ⟨w.heap.size+1+1+1,0,none⟩),.pointer (some ⟨w.heap.size+1+1+1+1,0,none⟩)]) rfl trivial (enters_of func70 (by kernel_rfl) rfl)
  (chgi_stops (6-1) (by omega) (NN w (w.heap.size+1+1+1)) x.at_ y.at_ L1.out _ _ _ _ (w.heap.size+1+1+1) (w.heap.size+1+1+1+1) V1 nd.b1 nd.b2 (.inr (.inl rfl)) (.inr (.inr rfl)) (HP.out.at_.below hbw (Nat.le_refl _)) (HQ.out.at_.below hbw (Nat.le_refl _)) (nn_ints _ HP.out.at_) (nn_ints _ HQ.out.at_)) KP.trans (fun W l o o' _ hl hc _=>KP.put W l o o' hl hc) (Below.refl _ _) (fun _=>rfl)
  (fun pre W=>∃v,Nd w x p y q (w.heap.size+1+1+1) 23 (.slice p.at_ x.at_.length p.atc) (.slice q.at_ y.at_.length q.atc) [] v (([]:List Pl)++(pre.map Fin.val).flatMap meK) W)
  (fun _ _ _=>False)
  (fun s X Y row hs hg hr=>hs.imp fun v h=>h.kept hg hr nd.b.size HD.out)
  (fun _ _ _ _ _ hs _ _=>hs)
  ⟨_,by simpa using nd⟩
  (fun z a' _=>a'={ tmps:=#[.agg (wC x p),.agg (wC y q),.pointer (some ⟨w.heap.size,0,none⟩),.pointer (some ⟨w.heap.size+1,0,none⟩),.slice none 0 0,.pointer (some ⟨w.heap.size+1+1,0,none⟩),.int .i64 (z.1:Int),undef,undef,.pointer (some ⟨w.heap.size,8,none⟩),.slice p.at_ x.at_.length p.atc,.pointer (some ⟨w.heap.size+1,8,none⟩),.slice q.at_ y.at_.length q.atc,.func (.func 70) #[] #[.pointer (some ⟨w.heap.size+1+1+1,0,none⟩),.pointer (some ⟨w.heap.size+1+1+1+1,0,none⟩)],.int .i64 (z.1:Int),undef,undef,undef,undef,undef,undef,undef,undef,undef,undef,undef,undef,undef,undef,undef,undef,undef,undef,undef,undef,undef,undef,undef,undef,undef,undef,undef,undef,undef,undef,undef,undef],defers:=[] })
  (fun _ _ _ _ _ _ hs _ _=>hs)
  ?assign ?body ?done ?stop
 case assign =>
  rintro l pre z W K hI hK
  gi_wp2
  exact hK _ _ (KeepsFrom.refl _ _) (KP.refl _) hI rfl
 case body =>
  rintro l pre z a' W hl _ ⟨v,nd⟩ rfl hlt
  have ND:=hid nd
  have HLEN:=hid (show (([]:List Pl)++(pre.map Fin.val).flatMap meK).length+1≤1000000 by
   have u1:=difL_len x.at_ y.at_
   have u2:=difL_len x.coins y.coins
   have u3:=difL_len x.wher y.wher
   have u4:=HSZ.out
   have u5:=len_pre meK 1 (fun _=>rfl) pre
   have u6:=len_flat1 meK (fun _=>rfl) (difL x.at_ y.at_)
   have u7:=len_flat1 meK (fun _=>rfl) (difL x.coins y.coins)
   simp only [List.length_append,List.length_nil] at *;omega)
  have cv:W.cell? ⟨w.heap.size+1+1,0,none⟩=some v:=(nd.hv.cell 0).trans rfl
  have lv:=nd.hv.lt
  obtain ⟨z,hz⟩:=z
  clear nd hlt hbw
  dsimp only
  gi_wp2
  refine tkR (S:=(fun _=>True)) (by (first|(exact trivial))) (fun hHeld=>?_)
  refine tkl [1] (tW ?_)
  try go_frame
  refine wpAnyH_ready (rs:=[0,2]) (by kernel_rfl) (by simp) (AllReadyH.cons (by simp only [List.getElem?_toArray,List.getElem?_cons_zero];rfl) (fun K hK=>?_) (AllReadyH.cons (by simp only [List.getElem?_toArray,List.getElem?_cons_succ,List.getElem?_cons_zero];rfl) (fun K hK=>?_) AllReadyH.nil))
  ·
   go_simp
   try go_wp2_with fail
   refine hK.out _ _ (by (first|(exact trivial))) (fun hHeld=>?_)
   clear hK K
   try go_frame
   refine rdy1 2 (fun K hK=>?_)
   go_simp
   with_reducible refine (mekey_any _ _).mono ?_;rintro e x1 ⟨rfl,hb9⟩;have ND1:=hid (ND.out.drew.call hb9);have E1:=hid (bl (Af (Below.refl _ _)) hb9);have cv1:x1.cell? ⟨w.heap.size+1+1,0,none⟩=some v:=(ND1.out.hv.cell 0).trans rfl;have lv1:=ND1.out.hv.lt;clear hb9
   try go_wp2_with fail
   refine hK.out _ _ (by (first|(exact trivial))) (fun hHeld=>?_)
   clear hK K
   try go_frame
   refine rdy1 3 (fun K hK=>?_)
   obtain ⟨v',W2,hr,hG,hg⟩:=ND1.out.g.many (t:=32) underlying32 keyF_info rfl (by decide) (by decide) Ni plC_one' (meK z) HLEN.out (by have:=ND1.out.b2.lt;omega)
   have HR:=hid (show (Builtin.append_ #[32,32] 32 #[v,.slice (some ⟨x1.heap.size,0,none⟩) 1 1]).run prog (x1.alloc (.cells #[.int .i64 1,.int .i64 (z:Int)] 47))=.ok v' W2 by simpa [plC,meK] using hr)
   obtain ⟨va,vm,vc,rfl⟩:=hG.form
   have HG:=hid hG
   have HGR:=hid hg
   clear hr hG hg
   go_simp
   try go_wp2_with fail
   refine hK.out _ _ (by (first|(exact trivial))) (fun hHeld=>?_)
   clear hK K
   try go_frame
   refine rdy1 4 (fun K hK=>?_)
   refine fstep_append rfl (.tmp 15) (.tmp 18) 32 rfl _ _ _ W2 rfl rfl HR.out ?_
   refine hK.out _ _ (by (first|(exact trivial))) (fun hHeld=>?_)
   clear hK K
   try go_frame
   refine rdy1 5 (fun K hK=>?_)
   have cm:=(ND1.out.mid HGR.out).cell
   have fm:=(ND1.out.mid HGR.out).frozen
   have lm:=(ND1.out.mid HGR.out).lt
   go_simp
   try go_wp2_with fail
   refine hK.out _ _ (by (first|(exact trivial))) (fun hHeld=>?_)
   clear hK K
   try go_frame
   refine tkE ?_
   clear hHeld
   gi_wp2
   exact ⟨(ND1.out.fin (E1.out) (by decide) HB3.out HGR.out HG.out).1,(ND1.out.fin (B0:=0) (E1.out) (by decide) HB3.out HGR.out HG.out).2.1,.slice va vm vc,by rw [pre_snoc];exact (ND1.out.fin (B0:=0) (E1.out) (by decide) HB3.out HGR.out HG.out).2.2⟩
  ·
   go_simp
   with_reducible refine (mekey_any _ _).mono ?_;rintro e x1 ⟨rfl,hb9⟩;have ND1:=hid (ND.out.drew.call hb9);have E1:=hid (bl (Af (Below.refl _ _)) hb9);have cv1:x1.cell? ⟨w.heap.size+1+1,0,none⟩=some v:=(ND1.out.hv.cell 0).trans rfl;have lv1:=ND1.out.hv.lt;clear hb9
   try go_wp2_with fail
   refine hK.out _ _ (by (first|(exact trivial))) (fun hHeld=>?_)
   clear hK K
   try go_frame
   refine wpAnyH_ready (rs:=[0,3]) (by kernel_rfl) (by simp) (AllReadyH.cons (by simp only [List.getElem?_toArray,List.getElem?_cons_zero];rfl) (fun K hK=>?_) (AllReadyH.cons (by simp only [List.getElem?_toArray,List.getElem?_cons_succ,List.getElem?_cons_zero];rfl) (fun K hK=>?_) AllReadyH.nil))
   ·
    go_simp
    try go_wp2_with fail
    refine hK.out _ _ (by (first|(exact trivial))) (fun hHeld=>?_)
    clear hK K
    try go_frame
    refine rdy1 3 (fun K hK=>?_)
    obtain ⟨v',W2,hr,hG,hg⟩:=ND1.out.g.many (t:=32) underlying32 keyF_info rfl (by decide) (by decide) Ni plC_one' (meK z) HLEN.out (by have:=ND1.out.b2.lt;omega)
    have HR:=hid (show (Builtin.append_ #[32,32] 32 #[v,.slice (some ⟨x1.heap.size,0,none⟩) 1 1]).run prog (x1.alloc (.cells #[.int .i64 1,.int .i64 (z:Int)] 47))=.ok v' W2 by simpa [plC,meK] using hr)
    obtain ⟨va,vm,vc,rfl⟩:=hG.form
    have HG:=hid hG
    have HGR:=hid hg
    clear hr hG hg
    go_simp
    try go_wp2_with fail
    refine hK.out _ _ (by (first|(exact trivial))) (fun hHeld=>?_)
    clear hK K
    try go_frame
    refine rdy1 4 (fun K hK=>?_)
    refine fstep_append rfl (.tmp 15) (.tmp 18) 32 rfl _ _ _ W2 rfl rfl HR.out ?_
    refine hK.out _ _ (by (first|(exact trivial))) (fun hHeld=>?_)
    clear hK K
    try go_frame
    refine rdy1 5 (fun K hK=>?_)
    have cm:=(ND1.out.mid HGR.out).cell
    have fm:=(ND1.out.mid HGR.out).frozen
    have lm:=(ND1.out.mid HGR.out).lt
    go_simp
    try go_wp2_with fail
    refine hK.out _ _ (by (first|(exact trivial))) (fun hHeld=>?_)
    clear hK K
    try go_frame
    refine tkE ?_
    clear hHeld
    gi_wp2
    exact ⟨(ND1.out.fin (E1.out) (by decide) HB3.out HGR.out HG.out).1,(ND1.out.fin (B0:=0) (E1.out) (by decide) HB3.out HGR.out HG.out).2.1,.slice va vm vc,by rw [pre_snoc];exact (ND1.out.fin (B0:=0) (E1.out) (by decide) HB3.out HGR.out HG.out).2.2⟩
   ·obtain ⟨v',W2,hr,hG,hg⟩:=ND1.out.g.many (t:=32) underlying32 keyF_info rfl (by decide) (by decide) Ni plC_one' (meK z) HLEN.out (by have:=ND1.out.b2.lt;omega)
    have HR:=hid (show (Builtin.append_ #[32,32] 32 #[v,.slice (some ⟨x1.heap.size,0,none⟩) 1 1]).run prog (x1.alloc (.cells #[.int .i64 1,.int .i64 (z:Int)] 47))=.ok v' W2 by simpa [plC,meK] using hr)
    obtain ⟨va,vm,vc,rfl⟩:=hG.form
    have HG:=hid hG
    have HGR:=hid hg
    clear hr hG hg
    go_simp
    try go_wp2_with fail
    refine hK.out _ _ (by (first|(exact trivial))) (fun hHeld=>?_)
    clear hK K
    try go_frame
    refine rdy1 0 (fun K hK=>?_)
    go_simp
    try go_wp2_with fail
    refine hK.out _ _ (by (first|(exact trivial))) (fun hHeld=>?_)
    clear hK K
    try go_frame
    refine rdy1 4 (fun K hK=>?_)
    refine fstep_append rfl (.tmp 15) (.tmp 18) 32 rfl _ _ _ W2 rfl rfl HR.out ?_
    refine hK.out _ _ (by (first|(exact trivial))) (fun hHeld=>?_)
    clear hK K
    try go_frame
    refine rdy1 5 (fun K hK=>?_)
    have cm:=(ND1.out.mid HGR.out).cell
    have fm:=(ND1.out.mid HGR.out).frozen
    have lm:=(ND1.out.mid HGR.out).lt
    go_simp
    try go_wp2_with fail
    refine hK.out _ _ (by (first|(exact trivial))) (fun hHeld=>?_)
    clear hK K
    try go_frame
    refine tkE ?_
    clear hHeld
    gi_wp2
    exact ⟨(ND1.out.fin (E1.out) (by decide) HB3.out HGR.out HG.out).1,(ND1.out.fin (B0:=0) (E1.out) (by decide) HB3.out HGR.out HG.out).2.1,.slice va vm vc,by rw [pre_snoc];exact (ND1.out.fin (B0:=0) (E1.out) (by decide) HB3.out HGR.out HG.out).2.2⟩
 case stop =>
  rintro D c pre W _ _ h _
  exact h.elim
 case done =>
  rintro D1 ys W1 hD1 hS ⟨v,nd⟩ hK
  rw [hS,List.nil_append] at nd
  have c0:=nd.h0.cell
  have c1:=nd.h1.cell
  have l0:=nd.h0.lt
  have l1:=nd.h1.lt
  have cv:W1.cell? ⟨w.heap.size+1+1,0,none⟩=some v:=(nd.hv.cell 0).trans rfl
  have lv:=nd.hv.lt
  have OD1:=hid (show w.heap.size≤D1 from Nat.le_trans hbw.size hD1)
  clear hbw
  gi_wp2_with (refine ⟨trivial,?_⟩;gi_at_call 62;refine (callsIn_wide.2 (chgi_any _ _ _ _ _ _ _)).mono ?_;rintro e w' ⟨rfl,rfl⟩)
  have cb:=chgW_below (.slice p.co x.coins.length p.coc) (.slice q.co y.coins.length q.coc) 23 W1
  have ca:=chgW_a (.slice p.co x.coins.length p.coc) (.slice q.co y.coins.length q.coc) 23 W1
  have cc:=chgW_b (.slice p.co x.coins.length p.coc) (.slice q.co y.coins.length q.coc) 23 W1
  have hB3:w.heap.size+3≤W1.heap.size:=by have:=nd.b2.lt;have:=HB3.out;omega
  have nx:=nd.call cb
  have hds:∀D∈([D1]:List Nat),(chgW (.slice p.co x.coins.length p.coc) (.slice q.co y.coins.length q.coc) 23 W1).heap[D]?=some (.deferred (some [])):=fun D hD=>by
   rcases List.mem_cons.1 hD with rfl|hD
   ·exact (cb.block _ (Array.getElem?_eq_some_iff.1 hK).1).trans hK
   ·exact nx.ds _ hD
  replace nd:Nd w x p y q (W1.heap.size) 23 (.slice p.co x.coins.length p.coc) (.slice q.co y.coins.length q.coc) [D1] v ((difL x.at_ y.at_).flatMap meK) (chgW (.slice p.co x.coins.length p.coc) (.slice q.co y.coins.length q.coc) 23 W1):=⟨nx.b,nx.h0,nx.h1,nx.hv,nx.g,ca,cc,hds⟩
  clear nx hds hK HB3 HD
  generalize chgW (.slice p.co x.coins.length p.coc) (.slice q.co y.coins.length q.coc) 23 W1=V2 at *
  clear ca cb cc c0 c1 l0 l1 cv lv
  have HB3:=hid hB3
  clear hB3
  have hD:∀D∈([D1]:List Nat),D<V2.heap.size:=fun D hD=>(Array.getElem?_eq_some_iff.1 (nd.ds D hD)).1
  have HD:=hid hD
  clear hD
  have hbw:=nd.b
  refine wpIn_rangeFunc_ownH rfl (by omega) (gf:=70) (lb:=#[.pointer (some ⟨W1.heap.size,0,none⟩),.pointer (some ⟨W1.heap.size+1,0,none⟩)]) rfl trivial (enters_of func70 (by kernel_rfl) rfl)
   (chgi_stops (6-1) (by omega) (NN w (W1.heap.size)) x.coins y.coins L2.out _ _ _ _ (W1.heap.size) (W1.heap.size+1) V2 nd.b1 nd.b2 (.inr (.inl rfl)) (.inr (.inr rfl)) (HP.out.co.below hbw (Nat.le_refl _)) (HQ.out.co.below hbw (Nat.le_refl _)) (nn_ints _ HP.out.co) (nn_ints _ HQ.out.co)) KP.trans (fun W l o o' _ hl hc _=>KP.put W l o o' hl hc) (Below.refl _ _) (fun _=>rfl)
   (fun pre W=>∃v,Nd w x p y q (W1.heap.size) 23 (.slice p.co x.coins.length p.coc) (.slice q.co y.coins.length q.coc) [D1] v (((difL x.at_ y.at_).flatMap meK)++(pre.map Fin.val).flatMap meK) W)
   (fun _ _ _=>False)
   (fun s X Y row hs hg hr=>hs.imp fun v h=>h.kept hg hr nd.b.size HD.out)
   (fun _ _ _ _ _ hs _ _=>hs)
   ⟨_,by simpa using nd⟩
   (fun z a' _=>a'={ tmps:=#[.agg (wC x p),.agg (wC y q),.pointer (some ⟨w.heap.size,0,none⟩),.pointer (some ⟨w.heap.size+1,0,none⟩),.slice none 0 0,.pointer (some ⟨w.heap.size+1+1,0,none⟩),undef,.int .i64 (z.1:Int),undef,.pointer (some ⟨w.heap.size,8,none⟩),.slice p.at_ x.at_.length p.atc,.pointer (some ⟨w.heap.size+1,8,none⟩),.slice q.at_ y.at_.length q.atc,.func (.func 70) #[] #[.pointer (some ⟨w.heap.size+1+1+1,0,none⟩),.pointer (some ⟨w.heap.size+1+1+1+1,0,none⟩)],undef,undef,undef,undef,undef,undef,.pointer (some ⟨w.heap.size,9,none⟩),.slice p.co x.coins.length p.coc,.pointer (some ⟨w.heap.size+1,9,none⟩),.slice q.co y.coins.length q.coc,.func (.func 70) #[] #[.pointer (some ⟨W1.heap.size,0,none⟩),.pointer (some ⟨W1.heap.size+1,0,none⟩)],.int .i64 (z.1:Int),undef,undef,undef,undef,undef,undef,undef,undef,undef,undef,undef,undef,undef,undef,undef,undef,undef,undef,undef,undef,undef],defers:=[] })
   (fun _ _ _ _ _ _ hs _ _=>hs)
   ?assign ?body ?done ?stop
  case assign =>
   rintro l pre z W K hI hK
   gi_wp2
   exact hK _ _ (KeepsFrom.refl _ _) (KP.refl _) hI rfl
  case body =>
   rintro l pre z a' W hl _ ⟨v,nd⟩ rfl hlt
   have ND:=hid nd
   have HLEN:=hid (show (((difL x.at_ y.at_).flatMap meK)++(pre.map Fin.val).flatMap meK).length+1≤1000000 by
    have u1:=difL_len x.at_ y.at_
    have u2:=difL_len x.coins y.coins
    have u3:=difL_len x.wher y.wher
    have u4:=HSZ.out
    have u5:=len_pre meK 1 (fun _=>rfl) pre
    have u6:=len_flat1 meK (fun _=>rfl) (difL x.at_ y.at_)
    have u7:=len_flat1 meK (fun _=>rfl) (difL x.coins y.coins)
    simp only [List.length_append] at *;omega)
   have cv:W.cell? ⟨w.heap.size+1+1,0,none⟩=some v:=(nd.hv.cell 0).trans rfl
   have lv:=nd.hv.lt
   obtain ⟨z,hz⟩:=z
   clear nd hlt hbw
   dsimp only
   gi_wp2
   refine tkR (S:=(fun _=>True)) (by (first|(exact trivial))) (fun hHeld=>?_)
   refine tkl [1] (tW ?_)
   try go_frame
   refine wpAnyH_ready (rs:=[0,2]) (by kernel_rfl) (by simp) (AllReadyH.cons (by simp only [List.getElem?_toArray,List.getElem?_cons_zero];rfl) (fun K hK=>?_) (AllReadyH.cons (by simp only [List.getElem?_toArray,List.getElem?_cons_succ,List.getElem?_cons_zero];rfl) (fun K hK=>?_) AllReadyH.nil))
   ·
    go_simp
    try go_wp2_with fail
    refine hK.out _ _ (by (first|(exact trivial))) (fun hHeld=>?_)
    clear hK K
    try go_frame
    refine rdy1 2 (fun K hK=>?_)
    go_simp
    with_reducible refine (mekey_any _ _).mono ?_;rintro e x1 ⟨rfl,hb9⟩;have ND1:=hid (ND.out.drew.call hb9);have E1:=hid (bl (Af (Below.refl _ _)) hb9);have cv1:x1.cell? ⟨w.heap.size+1+1,0,none⟩=some v:=(ND1.out.hv.cell 0).trans rfl;have lv1:=ND1.out.hv.lt;clear hb9
    try go_wp2_with fail
    refine hK.out _ _ (by (first|(exact trivial))) (fun hHeld=>?_)
    clear hK K
    try go_frame
    refine rdy1 3 (fun K hK=>?_)
    obtain ⟨v',W2,hr,hG,hg⟩:=ND1.out.g.many (t:=32) underlying32 keyF_info rfl (by decide) (by decide) Ni plC_one' (meK z) HLEN.out (by have:=ND1.out.b2.lt;omega)
    have HR:=hid (show (Builtin.append_ #[32,32] 32 #[v,.slice (some ⟨x1.heap.size,0,none⟩) 1 1]).run prog (x1.alloc (.cells #[.int .i64 1,.int .i64 (z:Int)] 47))=.ok v' W2 by simpa [plC,meK] using hr)
    obtain ⟨va,vm,vc,rfl⟩:=hG.form
    have HG:=hid hG
    have HGR:=hid hg
    clear hr hG hg
    go_simp
    try go_wp2_with fail
    refine hK.out _ _ (by (first|(exact trivial))) (fun hHeld=>?_)
    clear hK K
    try go_frame
    refine rdy1 4 (fun K hK=>?_)
    refine fstep_append rfl (.tmp 26) (.tmp 29) 32 rfl _ _ _ W2 rfl rfl HR.out ?_
    refine hK.out _ _ (by (first|(exact trivial))) (fun hHeld=>?_)
    clear hK K
    try go_frame
    refine rdy1 5 (fun K hK=>?_)
    have cm:=(ND1.out.mid HGR.out).cell
    have fm:=(ND1.out.mid HGR.out).frozen
    have lm:=(ND1.out.mid HGR.out).lt
    go_simp
    try go_wp2_with fail
    refine hK.out _ _ (by (first|(exact trivial))) (fun hHeld=>?_)
    clear hK K
    try go_frame
    refine tkE ?_
    clear hHeld
    gi_wp2
    exact ⟨(ND1.out.fin (E1.out) (by decide) HB3.out HGR.out HG.out).1,(ND1.out.fin (B0:=0) (E1.out) (by decide) HB3.out HGR.out HG.out).2.1,.slice va vm vc,by rw [pre_snoc];exact (ND1.out.fin (B0:=0) (E1.out) (by decide) HB3.out HGR.out HG.out).2.2⟩
   ·
    go_simp
    with_reducible refine (mekey_any _ _).mono ?_;rintro e x1 ⟨rfl,hb9⟩;have ND1:=hid (ND.out.drew.call hb9);have E1:=hid (bl (Af (Below.refl _ _)) hb9);have cv1:x1.cell? ⟨w.heap.size+1+1,0,none⟩=some v:=(ND1.out.hv.cell 0).trans rfl;have lv1:=ND1.out.hv.lt;clear hb9
    try go_wp2_with fail
    refine hK.out _ _ (by (first|(exact trivial))) (fun hHeld=>?_)
    clear hK K
    try go_frame
    refine wpAnyH_ready (rs:=[0,3]) (by kernel_rfl) (by simp) (AllReadyH.cons (by simp only [List.getElem?_toArray,List.getElem?_cons_zero];rfl) (fun K hK=>?_) (AllReadyH.cons (by simp only [List.getElem?_toArray,List.getElem?_cons_succ,List.getElem?_cons_zero];rfl) (fun K hK=>?_) AllReadyH.nil))
    ·
     go_simp
     try go_wp2_with fail
     refine hK.out _ _ (by (first|(exact trivial))) (fun hHeld=>?_)
     clear hK K
     try go_frame
     refine rdy1 3 (fun K hK=>?_)
     obtain ⟨v',W2,hr,hG,hg⟩:=ND1.out.g.many (t:=32) underlying32 keyF_info rfl (by decide) (by decide) Ni plC_one' (meK z) HLEN.out (by have:=ND1.out.b2.lt;omega)
     have HR:=hid (show (Builtin.append_ #[32,32] 32 #[v,.slice (some ⟨x1.heap.size,0,none⟩) 1 1]).run prog (x1.alloc (.cells #[.int .i64 1,.int .i64 (z:Int)] 47))=.ok v' W2 by simpa [plC,meK] using hr)
     obtain ⟨va,vm,vc,rfl⟩:=hG.form
     have HG:=hid hG
     have HGR:=hid hg
     clear hr hG hg
     go_simp
     try go_wp2_with fail
     refine hK.out _ _ (by (first|(exact trivial))) (fun hHeld=>?_)
     clear hK K
     try go_frame
     refine rdy1 4 (fun K hK=>?_)
     refine fstep_append rfl (.tmp 26) (.tmp 29) 32 rfl _ _ _ W2 rfl rfl HR.out ?_
     refine hK.out _ _ (by (first|(exact trivial))) (fun hHeld=>?_)
     clear hK K
     try go_frame
     refine rdy1 5 (fun K hK=>?_)
     have cm:=(ND1.out.mid HGR.out).cell
     have fm:=(ND1.out.mid HGR.out).frozen
     have lm:=(ND1.out.mid HGR.out).lt
     go_simp
     try go_wp2_with fail
     refine hK.out _ _ (by (first|(exact trivial))) (fun hHeld=>?_)
     clear hK K
     try go_frame
     refine tkE ?_
     clear hHeld
     gi_wp2
     exact ⟨(ND1.out.fin (E1.out) (by decide) HB3.out HGR.out HG.out).1,(ND1.out.fin (B0:=0) (E1.out) (by decide) HB3.out HGR.out HG.out).2.1,.slice va vm vc,by rw [pre_snoc];exact (ND1.out.fin (B0:=0) (E1.out) (by decide) HB3.out HGR.out HG.out).2.2⟩
    ·obtain ⟨v',W2,hr,hG,hg⟩:=ND1.out.g.many (t:=32) underlying32 keyF_info rfl (by decide) (by decide) Ni plC_one' (meK z) HLEN.out (by have:=ND1.out.b2.lt;omega)
     have HR:=hid (show (Builtin.append_ #[32,32] 32 #[v,.slice (some ⟨x1.heap.size,0,none⟩) 1 1]).run prog (x1.alloc (.cells #[.int .i64 1,.int .i64 (z:Int)] 47))=.ok v' W2 by simpa [plC,meK] using hr)
     obtain ⟨va,vm,vc,rfl⟩:=hG.form
     have HG:=hid hG
     have HGR:=hid hg
     clear hr hG hg
     go_simp
     try go_wp2_with fail
     refine hK.out _ _ (by (first|(exact trivial))) (fun hHeld=>?_)
     clear hK K
     try go_frame
     refine rdy1 0 (fun K hK=>?_)
     go_simp
     try go_wp2_with fail
     refine hK.out _ _ (by (first|(exact trivial))) (fun hHeld=>?_)
     clear hK K
     try go_frame
     refine rdy1 4 (fun K hK=>?_)
     refine fstep_append rfl (.tmp 26) (.tmp 29) 32 rfl _ _ _ W2 rfl rfl HR.out ?_
     refine hK.out _ _ (by (first|(exact trivial))) (fun hHeld=>?_)
     clear hK K
     try go_frame
     refine rdy1 5 (fun K hK=>?_)
     have cm:=(ND1.out.mid HGR.out).cell
     have fm:=(ND1.out.mid HGR.out).frozen
     have lm:=(ND1.out.mid HGR.out).lt
     go_simp
     try go_wp2_with fail
     refine hK.out _ _ (by (first|(exact trivial))) (fun hHeld=>?_)
     clear hK K
     try go_frame
     refine tkE ?_
     clear hHeld
     gi_wp2
     exact ⟨(ND1.out.fin (E1.out) (by decide) HB3.out HGR.out HG.out).1,(ND1.out.fin (B0:=0) (E1.out) (by decide) HB3.out HGR.out HG.out).2.1,.slice va vm vc,by rw [pre_snoc];exact (ND1.out.fin (B0:=0) (E1.out) (by decide) HB3.out HGR.out HG.out).2.2⟩
  case stop =>
   rintro D c pre W _ _ h _
   exact h.elim
  case done =>
   rintro D2 ys W2 hD2 hS ⟨v,nd⟩ hK
   rw [hS] at nd
   have c0:=nd.h0.cell
   have c1:=nd.h1.cell
   have l0:=nd.h0.lt
   have l1:=nd.h1.lt
   have cv:W2.cell? ⟨w.heap.size+1+1,0,none⟩=some v:=(nd.hv.cell 0).trans rfl
   have lv:=nd.hv.lt
   have OD2:=hid (show D1<D2 from Nat.lt_of_lt_of_le (HD.out D1 (by simp)) hD2)
   clear hbw
   gi_wp2_with (refine ⟨trivial,?_⟩;gi_at_call 63;refine (callsIn_wide.2 (chgp_any _ _ _ _ _ _ _)).mono ?_;rintro e w' ⟨rfl,rfl⟩)
   have cb:=chgW_below (.slice p.wh x.wher.length p.whc) (.slice q.wh y.wher.length q.whc) 27 W2
   have ca:=chgW_a (.slice p.wh x.wher.length p.whc) (.slice q.wh y.wher.length q.whc) 27 W2
   have cc:=chgW_b (.slice p.wh x.wher.length p.whc) (.slice q.wh y.wher.length q.whc) 27 W2
   have hB3:w.heap.size+3≤W2.heap.size:=by have:=nd.b2.lt;have:=HB3.out;omega
   have nx:=nd.call cb
   have hds:∀D∈([D2,D1]:List Nat),(chgW (.slice p.wh x.wher.length p.whc) (.slice q.wh y.wher.length q.whc) 27 W2).heap[D]?=some (.deferred (some [])):=fun D hD=>by
    rcases List.mem_cons.1 hD with rfl|hD
    ·exact (cb.block _ (Array.getElem?_eq_some_iff.1 hK).1).trans hK
    ·exact nx.ds _ hD
   replace nd:Nd w x p y q (W2.heap.size) 27 (.slice p.wh x.wher.length p.whc) (.slice q.wh y.wher.length q.whc) [D2,D1] v ((difL x.at_ y.at_).flatMap meK++(difL x.coins y.coins).flatMap meK) (chgW (.slice p.wh x.wher.length p.whc) (.slice q.wh y.wher.length q.whc) 27 W2):=⟨nx.b,nx.h0,nx.h1,nx.hv,nx.g,ca,cc,hds⟩
   clear nx hds hK HB3 HD
   generalize chgW (.slice p.wh x.wher.length p.whc) (.slice q.wh y.wher.length q.whc) 27 W2=V3 at *
   clear ca cb cc c0 c1 l0 l1 cv lv
   have HB3:=hid hB3
   clear hB3
   have hD:∀D∈([D2,D1]:List Nat),D<V3.heap.size:=fun D hD=>(Array.getElem?_eq_some_iff.1 (nd.ds D hD)).1
   have HD:=hid hD
   clear hD
   have hbw:=nd.b
   refine wpIn_rangeFunc_ownH rfl (by omega) (gf:=71) (lb:=#[.pointer (some ⟨W2.heap.size,0,none⟩),.pointer (some ⟨W2.heap.size+1,0,none⟩)]) rfl trivial (enters_of func71 (by kernel_rfl) rfl)
    (chgp_stops (6-1) (by omega) (NN w (W2.heap.size)) x.wher y.wher L3.out _ _ _ _ (W2.heap.size) (W2.heap.size+1) V3 nd.b1 nd.b2 (.inr (.inl rfl)) (.inr (.inr rfl)) (HP.out.wh.below hbw (Nat.le_refl _)) (HQ.out.wh.below hbw (Nat.le_refl _)) (nn_pls _ HP.out.wh) (nn_pls _ HQ.out.wh)) KP.trans (fun W l o o' _ hl hc _=>KP.put W l o o' hl hc) (Below.refl _ _) (fun _=>rfl)
    (fun pre W=>∃v,Nd w x p y q (W2.heap.size) 27 (.slice p.wh x.wher.length p.whc) (.slice q.wh y.wher.length q.whc) [D2,D1] v (((difL x.at_ y.at_).flatMap meK++(difL x.coins y.coins).flatMap meK)++(pre.map Fin.val).flatMap (rtK x y)) W)
    (fun _ _ _=>False)
    (fun s X Y row hs hg hr=>hs.imp fun v h=>h.kept hg hr nd.b.size HD.out)
    (fun _ _ _ _ _ hs _ _=>hs)
    ⟨_,by simpa using nd⟩
    (fun z a' _=>a'={ tmps:=#[.agg (wC x p),.agg (wC y q),.pointer (some ⟨w.heap.size,0,none⟩),.pointer (some ⟨w.heap.size+1,0,none⟩),.slice none 0 0,.pointer (some ⟨w.heap.size+1+1,0,none⟩),undef,undef,.int .i64 (z.1:Int),.pointer (some ⟨w.heap.size,8,none⟩),.slice p.at_ x.at_.length p.atc,.pointer (some ⟨w.heap.size+1,8,none⟩),.slice q.at_ y.at_.length q.atc,.func (.func 70) #[] #[.pointer (some ⟨w.heap.size+1+1+1,0,none⟩),.pointer (some ⟨w.heap.size+1+1+1+1,0,none⟩)],undef,undef,undef,undef,undef,undef,.pointer (some ⟨w.heap.size,9,none⟩),.slice p.co x.coins.length p.coc,.pointer (some ⟨w.heap.size+1,9,none⟩),.slice q.co y.coins.length q.coc,.func (.func 70) #[] #[.pointer (some ⟨W1.heap.size,0,none⟩),.pointer (some ⟨W1.heap.size+1,0,none⟩)],undef,undef,undef,undef,undef,undef,.pointer (some ⟨w.heap.size,10,none⟩),.slice p.wh x.wher.length p.whc,.pointer (some ⟨w.heap.size+1,10,none⟩),.slice q.wh y.wher.length q.whc,.func (.func 71) #[] #[.pointer (some ⟨W2.heap.size,0,none⟩),.pointer (some ⟨W2.heap.size+1,0,none⟩)],.int .i64 (z.1:Int),undef,undef,undef,undef,undef,undef,undef,undef,undef,undef],defers:=[] })
    (fun _ _ _ _ _ _ hs _ _=>hs)
    ?assign ?body ?done ?stop
   case assign =>
    rintro l pre z W K hI hK
    gi_wp2
    exact hK _ _ (KeepsFrom.refl _ _) (KP.refl _) hI rfl
   case body =>
    rintro l pre z a' W hl _ ⟨v,nd⟩ rfl hlt
    have ND:=hid nd
    have HLEN:=hid (show (((difL x.at_ y.at_).flatMap meK++(difL x.coins y.coins).flatMap meK)++(pre.map Fin.val).flatMap (rtK x y)).length+2≤1000000 by
     have u1:=difL_len x.at_ y.at_
     have u2:=difL_len x.coins y.coins
     have u3:=difL_len x.wher y.wher
     have u4:=HSZ.out
     have u5:=len_pre (rtK x y) 2 (fun _=>rfl) pre
     have u6:=len_flat1 meK (fun _=>rfl) (difL x.at_ y.at_)
     have u7:=len_flat1 meK (fun _=>rfl) (difL x.coins y.coins)
     simp only [List.length_append] at *;omega)
    have cv:W.cell? ⟨w.heap.size+1+1,0,none⟩=some v:=(nd.hv.cell 0).trans rfl
    have lv:=nd.hv.lt
    have c0:=nd.h0.cell
    have c1:=nd.h1.cell
    have l0:=nd.h0.lt
    have l1:=nd.h1.lt
    obtain ⟨z,hz⟩:=z
    clear nd hlt hbw
    dsimp only
    gi_wp2
    refine tkR (S:=(fun w'=>(∀i,w'.cell? ⟨w.heap.size,i,none⟩=((wC x p)[i]?:Option Value))∧∀i,w'.cell? ⟨w.heap.size+1,i,none⟩=((wC y q)[i]?:Option Value))) (by (first|(exact ND.out.drew.S))) (fun hHeld=>?_)
    refine tkl [1,2,4,5] ?_
    iterate 4
     refine tW ?_
     try go_frame
    refine wpAnyH_ready (rs:=[0,3]) (by kernel_rfl) (by simp) (AllReadyH.cons (by simp only [List.getElem?_toArray,List.getElem?_cons_zero];rfl) (fun K hK=>?_) (AllReadyH.cons (by simp only [List.getElem?_toArray,List.getElem?_cons_succ,List.getElem?_cons_zero];rfl) (fun K hK=>?_) AllReadyH.nil))
    ·
     go_simp
     try go_wp2_with fail
     refine hK.out _ _ (by (first|(exact ND.out.drew.S))) (fun hHeld=>?_)
     clear hK K
     try go_frame
     refine rdy1 3 (fun K hK=>?_)
     go_simp
     with_reducible refine (rootkey_any x p HX.out z hz _ (HP.out.wh.below (ND.out.drew.b) (Nat.le_refl _))).mono ?_;rintro e x1 ⟨rfl,hb9⟩;have ND1:=hid (ND.out.drew.call hb9);have E1:=hid (bl (Af (Below.refl _ _)) hb9);have cv1:x1.cell? ⟨w.heap.size+1+1,0,none⟩=some v:=(ND1.out.hv.cell 0).trans rfl;have lv1:=ND1.out.hv.lt;clear hb9
     try go_wp2_with fail
     refine hK.out _ _ (by (first|(exact ND1.out.S))) (fun hHeld=>?_)
     clear hK K
     try go_frame
     refine rdy1 6 (fun K hK=>?_)
     go_simp
     with_reducible refine (rootkey_any y q HY.out z (by rw [L3.out];exact hz) _ (HQ.out.wh.below (ND1.out.b) (Nat.le_refl _))).mono ?_;rintro e x2 ⟨rfl,hb9⟩;have ND2:=hid (ND1.out.call hb9);have E2:=hid (bl E1.out hb9);have cv2:x2.cell? ⟨w.heap.size+1+1,0,none⟩=some v:=(ND2.out.hv.cell 0).trans rfl;have lv2:=ND2.out.hv.lt;clear hb9
     try go_wp2_with fail
     refine hK.out _ _ (by (first|(exact ND2.out.S))) (fun hHeld=>?_)
     clear hK K
     try go_frame
     refine rdy1 7 (fun K hK=>?_)
     obtain ⟨v',W2,hr,hG,hg⟩:=ND2.out.g.many (t:=32) underlying32 keyF_info rfl (by decide) (by decide) Ni plC_one' (rtK x y z) HLEN.out (by have:=ND2.out.b2.lt;omega)
     have HR:=hid (show (Builtin.append_ #[32,32] 32 #[v,.slice (some ⟨x2.heap.size,0,none⟩) 2 2]).run prog (x2.alloc (.cells #[.int .i64 (Bh x.wher z).kind,.int .i64 (Bh x.wher z).id,.int .i64 (Bh y.wher z).kind,.int .i64 (Bh y.wher z).id] 47))=.ok v' W2 by simpa [plC,rtK] using hr)
     obtain ⟨va,vm,vc,rfl⟩:=hG.form
     have HG:=hid hG
     have HGR:=hid hg
     clear hr hG hg
     go_simp
     try go_wp2_with fail
     refine hK.out _ _ (by (first|(exact (ND2.out.call (b_a _)).S))) (fun hHeld=>?_)
     clear hK K
     try go_frame
     refine rdy1 8 (fun K hK=>?_)
     refine fstep_append rfl (.tmp 37) (.tmp 44) 32 rfl _ _ _ W2 rfl rfl HR.out ?_
     refine hK.out _ _ (by (first|(exact ND2.out.midS HGR.out))) (fun hHeld=>?_)
     clear hK K
     try go_frame
     refine rdy1 9 (fun K hK=>?_)
     have cm:=(ND2.out.mid HGR.out).cell
     have fm:=(ND2.out.mid HGR.out).frozen
     have lm:=(ND2.out.mid HGR.out).lt
     go_simp
     try go_wp2_with fail
     refine hK.out _ _ (by (first|(exact (ND2.out.put (by decide) HB3.out HGR.out HG.out).S))) (fun hHeld=>?_)
     clear hK K
     try go_frame
     refine tkE ?_
     clear hHeld
     gi_wp2
     exact ⟨(ND2.out.fin (E2.out) (by decide) HB3.out HGR.out HG.out).1,(ND2.out.fin (B0:=0) (E2.out) (by decide) HB3.out HGR.out HG.out).2.1,.slice va vm vc,by rw [pre_snoc];exact (ND2.out.fin (B0:=0) (E2.out) (by decide) HB3.out HGR.out HG.out).2.2⟩
    ·
     go_simp
     with_reducible refine (rootkey_any x p HX.out z hz _ (HP.out.wh.below (ND.out.drew.b) (Nat.le_refl _))).mono ?_;rintro e x1 ⟨rfl,hb9⟩;have ND1:=hid (ND.out.drew.call hb9);have E1:=hid (bl (Af (Below.refl _ _)) hb9);have cv1:x1.cell? ⟨w.heap.size+1+1,0,none⟩=some v:=(ND1.out.hv.cell 0).trans rfl;have lv1:=ND1.out.hv.lt;clear hb9
     try go_wp2_with fail
     refine hK.out _ _ (by (first|(exact ND1.out.S))) (fun hHeld=>?_)
     clear hK K
     try go_frame
     refine wpAnyH_ready (rs:=[0,6]) (by kernel_rfl) (by simp) (AllReadyH.cons (by simp only [List.getElem?_toArray,List.getElem?_cons_zero];rfl) (fun K hK=>?_) (AllReadyH.cons (by simp only [List.getElem?_toArray,List.getElem?_cons_succ,List.getElem?_cons_zero];rfl) (fun K hK=>?_) AllReadyH.nil))
     ·
      go_simp
      try go_wp2_with fail
      refine hK.out _ _ (by (first|(exact ND1.out.S))) (fun hHeld=>?_)
      clear hK K
      try go_frame
      refine rdy1 6 (fun K hK=>?_)
      go_simp
      with_reducible refine (rootkey_any y q HY.out z (by rw [L3.out];exact hz) _ (HQ.out.wh.below (ND1.out.b) (Nat.le_refl _))).mono ?_;rintro e x2 ⟨rfl,hb9⟩;have ND2:=hid (ND1.out.call hb9);have E2:=hid (bl E1.out hb9);have cv2:x2.cell? ⟨w.heap.size+1+1,0,none⟩=some v:=(ND2.out.hv.cell 0).trans rfl;have lv2:=ND2.out.hv.lt;clear hb9
      try go_wp2_with fail
      refine hK.out _ _ (by (first|(exact ND2.out.S))) (fun hHeld=>?_)
      clear hK K
      try go_frame
      refine rdy1 7 (fun K hK=>?_)
      obtain ⟨v',W2,hr,hG,hg⟩:=ND2.out.g.many (t:=32) underlying32 keyF_info rfl (by decide) (by decide) Ni plC_one' (rtK x y z) HLEN.out (by have:=ND2.out.b2.lt;omega)
      have HR:=hid (show (Builtin.append_ #[32,32] 32 #[v,.slice (some ⟨x2.heap.size,0,none⟩) 2 2]).run prog (x2.alloc (.cells #[.int .i64 (Bh x.wher z).kind,.int .i64 (Bh x.wher z).id,.int .i64 (Bh y.wher z).kind,.int .i64 (Bh y.wher z).id] 47))=.ok v' W2 by simpa [plC,rtK] using hr)
      obtain ⟨va,vm,vc,rfl⟩:=hG.form
      have HG:=hid hG
      have HGR:=hid hg
      clear hr hG hg
      go_simp
      try go_wp2_with fail
      refine hK.out _ _ (by (first|(exact (ND2.out.call (b_a _)).S))) (fun hHeld=>?_)
      clear hK K
      try go_frame
      refine rdy1 8 (fun K hK=>?_)
      refine fstep_append rfl (.tmp 37) (.tmp 44) 32 rfl _ _ _ W2 rfl rfl HR.out ?_
      refine hK.out _ _ (by (first|(exact ND2.out.midS HGR.out))) (fun hHeld=>?_)
      clear hK K
      try go_frame
      refine rdy1 9 (fun K hK=>?_)
      have cm:=(ND2.out.mid HGR.out).cell
      have fm:=(ND2.out.mid HGR.out).frozen
      have lm:=(ND2.out.mid HGR.out).lt
      go_simp
      try go_wp2_with fail
      refine hK.out _ _ (by (first|(exact (ND2.out.put (by decide) HB3.out HGR.out HG.out).S))) (fun hHeld=>?_)
      clear hK K
      try go_frame
      refine tkE ?_
      clear hHeld
      gi_wp2
      exact ⟨(ND2.out.fin (E2.out) (by decide) HB3.out HGR.out HG.out).1,(ND2.out.fin (B0:=0) (E2.out) (by decide) HB3.out HGR.out HG.out).2.1,.slice va vm vc,by rw [pre_snoc];exact (ND2.out.fin (B0:=0) (E2.out) (by decide) HB3.out HGR.out HG.out).2.2⟩
     ·
      go_simp
      with_reducible refine (rootkey_any y q HY.out z (by rw [L3.out];exact hz) _ (HQ.out.wh.below (ND1.out.b) (Nat.le_refl _))).mono ?_;rintro e x2 ⟨rfl,hb9⟩;have ND2:=hid (ND1.out.call hb9);have E2:=hid (bl E1.out hb9);have cv2:x2.cell? ⟨w.heap.size+1+1,0,none⟩=some v:=(ND2.out.hv.cell 0).trans rfl;have lv2:=ND2.out.hv.lt;clear hb9
      try go_wp2_with fail
      refine hK.out _ _ (by (first|(exact ND2.out.S))) (fun hHeld=>?_)
      clear hK K
      try go_frame
      refine wpAnyH_ready (rs:=[0,7]) (by kernel_rfl) (by simp) (AllReadyH.cons (by simp only [List.getElem?_toArray,List.getElem?_cons_zero];rfl) (fun K hK=>?_) (AllReadyH.cons (by simp only [List.getElem?_toArray,List.getElem?_cons_succ,List.getElem?_cons_zero];rfl) (fun K hK=>?_) AllReadyH.nil))
      ·
       go_simp
       try go_wp2_with fail
       refine hK.out _ _ (by (first|(exact ND2.out.S))) (fun hHeld=>?_)
       clear hK K
       try go_frame
       refine rdy1 7 (fun K hK=>?_)
       obtain ⟨v',W2,hr,hG,hg⟩:=ND2.out.g.many (t:=32) underlying32 keyF_info rfl (by decide) (by decide) Ni plC_one' (rtK x y z) HLEN.out (by have:=ND2.out.b2.lt;omega)
       have HR:=hid (show (Builtin.append_ #[32,32] 32 #[v,.slice (some ⟨x2.heap.size,0,none⟩) 2 2]).run prog (x2.alloc (.cells #[.int .i64 (Bh x.wher z).kind,.int .i64 (Bh x.wher z).id,.int .i64 (Bh y.wher z).kind,.int .i64 (Bh y.wher z).id] 47))=.ok v' W2 by simpa [plC,rtK] using hr)
       obtain ⟨va,vm,vc,rfl⟩:=hG.form
       have HG:=hid hG
       have HGR:=hid hg
       clear hr hG hg
       go_simp
       try go_wp2_with fail
       refine hK.out _ _ (by (first|(exact (ND2.out.call (b_a _)).S))) (fun hHeld=>?_)
       clear hK K
       try go_frame
       refine rdy1 8 (fun K hK=>?_)
       refine fstep_append rfl (.tmp 37) (.tmp 44) 32 rfl _ _ _ W2 rfl rfl HR.out ?_
       refine hK.out _ _ (by (first|(exact ND2.out.midS HGR.out))) (fun hHeld=>?_)
       clear hK K
       try go_frame
       refine rdy1 9 (fun K hK=>?_)
       have cm:=(ND2.out.mid HGR.out).cell
       have fm:=(ND2.out.mid HGR.out).frozen
       have lm:=(ND2.out.mid HGR.out).lt
       go_simp
       try go_wp2_with fail
       refine hK.out _ _ (by (first|(exact (ND2.out.put (by decide) HB3.out HGR.out HG.out).S))) (fun hHeld=>?_)
       clear hK K
       try go_frame
       refine tkE ?_
       clear hHeld
       gi_wp2
       exact ⟨(ND2.out.fin (E2.out) (by decide) HB3.out HGR.out HG.out).1,(ND2.out.fin (B0:=0) (E2.out) (by decide) HB3.out HGR.out HG.out).2.1,.slice va vm vc,by rw [pre_snoc];exact (ND2.out.fin (B0:=0) (E2.out) (by decide) HB3.out HGR.out HG.out).2.2⟩
      ·obtain ⟨v',W2,hr,hG,hg⟩:=ND2.out.g.many (t:=32) underlying32 keyF_info rfl (by decide) (by decide) Ni plC_one' (rtK x y z) HLEN.out (by have:=ND2.out.b2.lt;omega)
       have HR:=hid (show (Builtin.append_ #[32,32] 32 #[v,.slice (some ⟨x2.heap.size,0,none⟩) 2 2]).run prog (x2.alloc (.cells #[.int .i64 (Bh x.wher z).kind,.int .i64 (Bh x.wher z).id,.int .i64 (Bh y.wher z).kind,.int .i64 (Bh y.wher z).id] 47))=.ok v' W2 by simpa [plC,rtK] using hr)
       obtain ⟨va,vm,vc,rfl⟩:=hG.form
       have HG:=hid hG
       have HGR:=hid hg
       clear hr hG hg
       go_simp
       try go_wp2_with fail
       refine hK.out _ _ (by (first|(exact (ND2.out.call (b_a _)).S))) (fun hHeld=>?_)
       clear hK K
       try go_frame
       refine rdy1 0 (fun K hK=>?_)
       go_simp
       try go_wp2_with fail
       refine hK.out _ _ (by (first|(exact (ND2.out.call (b_a _)).S))) (fun hHeld=>?_)
       clear hK K
       try go_frame
       refine rdy1 8 (fun K hK=>?_)
       refine fstep_append rfl (.tmp 37) (.tmp 44) 32 rfl _ _ _ W2 rfl rfl HR.out ?_
       refine hK.out _ _ (by (first|(exact ND2.out.midS HGR.out))) (fun hHeld=>?_)
       clear hK K
       try go_frame
       refine rdy1 9 (fun K hK=>?_)
       have cm:=(ND2.out.mid HGR.out).cell
       have fm:=(ND2.out.mid HGR.out).frozen
       have lm:=(ND2.out.mid HGR.out).lt
       go_simp
       try go_wp2_with fail
       refine hK.out _ _ (by (first|(exact (ND2.out.put (by decide) HB3.out HGR.out HG.out).S))) (fun hHeld=>?_)
       clear hK K
       try go_frame
       refine tkE ?_
       clear hHeld
       gi_wp2
       exact ⟨(ND2.out.fin (E2.out) (by decide) HB3.out HGR.out HG.out).1,(ND2.out.fin (B0:=0) (E2.out) (by decide) HB3.out HGR.out HG.out).2.1,.slice va vm vc,by rw [pre_snoc];exact (ND2.out.fin (B0:=0) (E2.out) (by decide) HB3.out HGR.out HG.out).2.2⟩
   case stop =>
    rintro D c pre W _ _ h _
    exact h.elim
   case done =>
    rintro D3 ys W3 hD3 hS ⟨v,nd⟩ hK
    rw [hS] at nd
    have c0:=nd.h0.cell
    have c1:=nd.h1.cell
    have l0:=nd.h0.lt
    have l1:=nd.h1.lt
    have cv:W3.cell? ⟨w.heap.size+1+1,0,none⟩=some v:=(nd.hv.cell 0).trans rfl
    have lv:=nd.hv.lt
    have OD3:=hid (show D2<D3 from Nat.lt_of_lt_of_le (HD.out D2 (by simp)) hD3)
    clear hbw
    replace nd:Nd w x p y q _ _ _ _ [D2,D1] v (needL x y) W3:=nd
    obtain ⟨k2,k1,a,c,rfl,hR,hBl⟩:=nd.end3 hK OD1.out OD2.out OD3.out
    gi_wp2
    refine ⟨by simp,.inl ⟨_,_,rfl,run_takeDeferred hK,?_⟩⟩
    refine ⟨by simp,.inl ⟨_,_,rfl,run_takeDeferred k2,?_⟩⟩
    refine ⟨by simp,.inl ⟨_,_,rfl,run_takeDeferred k1,?_⟩⟩
    exact ⟨_,results_tmp rfl _ _ _,a,c,rfl,hR,hBl⟩
end
section
open Go.RowKit Go
theorem covers_any (x y:Wd) (p q:Wp) (a:Option Addr) (cap:Nat) (l:List Pl) (w:World) (hx:Ai x=true) (hy:Ai y=true) (h1:y.at_.length=x.at_.length) (h3:y.wher.length=x.wher.length) (hsz:x.at_.length+x.coins.length+2*x.wher.length≤100000) (hp:Ab w p x) (hq:Ab w q y) (hl:Au w a l) :
 Calls prog 13 #[.slice a l.length cap,.agg (wC x p),.agg (wC y q)] w fun e w'=>e=.returned (.bool (Hk8 l x y))∧Below w.heap.size w w':=by
 have l1:=(Aj hx).2.2.1
 have l2:=(Aj hy).2.2.1
 have HP:=hid hp
 have HQ:=hid hq
 have HL:=hid hl
 have HB:=hid (Fk9 w (wC x p) (wC y q) 29 29)
 have HX:=hid (Bv hx)
 have HY:=hid (Bv hy)
 have L1:=hid h1
 have L2:=hid (show y.coins.length=x.coins.length by omega)
 have L3:=hid h3
 have HALL:=hid (cover_need l h1 (show y.coins.length=x.coins.length by omega) l1 h3)
 have HSZ:=hid hsz
 clear hx hy h1 h3 hp hq hl hsz l1 l2
 have hWC:=@wC.eq_1
 have hCC:=@cC.eq_1
 go_enter func13,ntmps13
 go_wp2_with fail
 refine (need_any x y p q _ HX.out HY.out L1.out L2.out L3.out HSZ.out (HP.out.below HB.out (Nat.le_refl _)) (HQ.out.below HB.out (Nat.le_refl _))).mono ?_
 rintro e w1 ⟨na,nc,rfl,hN,hb⟩
 have HN:=hid hN
 have HB1:=hid (bl HB.out hb)
 have hm:=hN.len
 clear hN hb HP HQ HX HY HSZ L1 L2 L3 HB
 generalize needL x y=N at *
 go_wp2_with fail
 go_loopw [8,13] (fun _ i wr=>∃k:Nat,k≤N.length∧i=.int .i64 k∧(∀z∈N.take k,z∈l)∧Below w1.heap.size w1 wr) (fun _ i _=>N.length-(intOf i).toNat)
 case atStart=>exact ⟨0,Nat.zero_le _,rfl,by simp,Below.refl _ _⟩
 case round =>
  obtain ⟨k,hk,rfl,hall,hbel⟩:=hrel
  have HA:=hid hall
  have HBE:=hid hbel
  clear hall
  by_cases hlt:k<N.length
  ·obtain ⟨b,o,rfl,hbb,h0,h1⟩:=HN.out.cells hlt
   have c0:=Bz h0 hbb hbel
   have c1:=Bz h1 hbb hbel
   have HT:=hid (show N.take (k+1)=N.take k++[N[k]] by rw [List.take_succ_eq_append_getElem hlt])
   have HM:=hid (show N[k]∈N from List.getElem_mem hlt)
   clear h0 h1 hbel
   generalize N[k]=z at *
   obtain ⟨z0,z1⟩:=z
   simp only at c0 c1
   have HB2:=hid ((Below.refl wr.heap.size wr).alloc (Nat.le_refl _) (.cells #[.int .i64 z0,.int .i64 z1] 47))
   go_wp2_with fail
   refine (contains_any a cap l ⟨z0,z1⟩ _ (HL.out.below (bl (bl HB1.out HBE.out) HB2.out) (Nat.le_refl _))).mono ?_
   rintro e w2 ⟨rfl,hb2⟩
   have HB3:=hid (bl HBE.out (bl HB2.out hb2))
   clear hb2
   by_cases hz:(⟨z0,z1⟩:Pl)∈l
   ·have HZ:=hid hz
    rw [decide_eq_true hz]
    clear hz
    go_wp2_with fail
    go_roundw
    case rel=>exact ⟨k+1,by omega,by go_num,by rw [HT.out];intro z hz;rcases List.mem_append.1 hz with h|h;exact HA.out z h;rw [List.mem_singleton.1 h];exact HZ.out,HB3.out⟩
    case measure=>simp [intOf];omega
   ·have HR:=hid (show Hk8 l x y=false by
     rw [←HALL.out,List.all_eq_false]
     exact ⟨_,HM.out,by simpa using hz⟩)
    rw [decide_eq_false hz]
    clear hz
    go_wp2_with fail
    go_ret
    exact ⟨Ag HR.out.symm,bl HB1.out HB3.out⟩
  ·have hke:k=N.length:=by omega
   subst hke
   rw [List.take_length] at HA
   have HR:=hid (show Hk8 l x y=true by
    rw [←HALL.out,List.all_eq_true]
    intro z hz
    exact decide_eq_true (HA.out z hz))
   clear hbel
   go_wp2_with fail
   go_ret
   exact ⟨Ag HR.out.symm,bl HB1.out HBE.out⟩
theorem footL_cases (x:Wd) (i:Nat) (c:Cm) (A B:List Pl) (hA:A=if (c.kind=1∨c.kind=2)∧¬toW x (Ah x i) c.dir.toNat=-1 then [⟨0,toW x (Ah x i) c.dir.toNat⟩] else [])
 (hB:B=if (c.kind=2∨c.kind=7∨c.kind=8)∧inB c.who x.at_.length=true then [⟨1,c.who⟩] else []):Yb x i c=([⟨0,(Ah x i:Int)⟩,⟨1,(i:Int)⟩]++A)++B:=by
 rw [hA,hB,Yb,List.append_assoc]
theorem foot_ink {x:Wd} (hx:Ai x=true) {i:Nat} (hi:i<x.at_.length) (c:Cm) (hd:0≤c.dir∧c.dir<4) (he:x.d.exits.length≤maxLen) (ha:x.at_.length≤maxLen):∀k∈Yb x i c,InK k:=by
 intro k hk
 have hr:=(Bn hx hi).2
 have ht:=Vl hx hr (d:=c.dir.toNat) (by omega)
 unfold maxLen at he ha
 simp only [Yb,List.mem_append,List.mem_cons,List.not_mem_nil,or_false] at hk
 rcases hk with (rfl|rfl)|hk|hk
 ·refine ⟨⟨?_,?_⟩,?_,?_⟩<;>(dsimp only;omega)
 ·refine ⟨⟨?_,?_⟩,?_,?_⟩<;>(dsimp only;omega)
 ·split at hk
  ·rename_i h
   rw [List.mem_singleton] at hk
   subst hk
   have:=ht.resolve_left h.2
   refine ⟨⟨?_,?_⟩,?_,?_⟩<;>(dsimp only;omega)
  ·simp at hk
 ·split at hk
  ·rename_i h
   rw [List.mem_singleton] at hk
   subst hk
   have:=h.2
   rw [Bi] at this
   refine ⟨⟨?_,?_⟩,?_,?_⟩<;>(dsimp only;omega)
  ·simp at hk
theorem foot_short (x:Wd) (i:Nat) (c:Cm):(Yb x i c).length≤4:=by
 unfold Yb
 simp only [List.length_append,List.length_cons,List.length_nil]
 split<;>split<;>simp
theorem of_any (x:Wd) (p:Wp) (i:Nat) (c:Cm) (ga wa:Option Addr) (gc wc:Nat) (w:World) (hx:Ai x=true) (h:Ab w p x) (hi:i<x.at_.length) (hd:0≤c.dir∧c.dir<4) :
 Calls prog 11 #[.agg (wC x p),.int .i64 (i:Int),.agg (cC c ga gc wa wc)] w fun e w'=>∃(fb:Option Addr) (cp:Nat) (s:List Pl),e=.returned (.slice fb s.length cp)∧Lm (Yb x i c) s∧OwnR 2 47 plC w.heap.size w' fb s∧Below w.heap.size w w':=by
 have HINK:=hid (foot_ink hx hi c hd h.d.ex.len h.at_.len)
 obtain ⟨b,o,hbo,hb,hc⟩:=h.at_.at_ hi
 have c1:=hc i hi
 rw [(Bn hx hi).1] at c1
 have hr:=(Bn hx hi).2
 have hex:=fun w=>Iz x p (Ah x i) c.dir.toNat hr (by omega) w
 rw [show ((c.dir.toNat:Nat):Int)=c.dir by omega] at hex
 have HEX:=hid hex
 have HFL:=hid (footL_cases x i c)
 have HX:=hid h
 have HI:=hid (show inB (i:Int) x.at_.length=true by simp [inB,hi])
 have C1:=hid c1
 have HBB:=hid hb
 clear hex hd hr hx hc c1 h hb
 generalize Ah x i=rm at *
 generalize toW x rm c.dir.toNat=T at *
 have HP0:=hid (Ac.pair w (wC x p) (cC c ga gc wa wc) 29 31)
 obtain ⟨pd,pa,pac,pk,pkc,pw,pwc⟩:=p
 dsimp only at hbo HP0 HX HEX
 subst hbo
 have hWC:=@wC.eq_1
 have hCC:=@cC.eq_1
 go_enter func11,ntmps11
 go_wp2_with fail
 generalize (w.alloc (.cells (wC x ⟨pd,some ⟨b,o,none⟩,pac,pk,pkc,pw,pwc⟩) 29)).alloc (.cells (cC c ga gc wa wc) 31)=V0 at *
 have H_0:=hid HP0.out.1
 have C_0:=hid HP0.out.2
 have B_0:=hid H_0.out.1
 clear HP0
 refine (fplayer_any x (⟨pd,some ⟨b,o,none⟩,pac,pk,pkc,pw,pwc⟩:Wp) i _).mono ?_
 rintro e u1 ⟨rfl,b1⟩
 rw [HI.out]
 have B_1:=hid (bl B_0.out b1)
 have H_1:=hid (H_0.out.call b1)
 have C_1:=hid (C_0.out.call b1)
 clear b1 B_0 H_0 C_0
 have hcH:=H_1.out.2.2
 have hlH:=H_1.out.2.1
 have hcC:=C_1.out.2.2
 have hlC:=C_1.out.2.1
 have ca:u1.cell? ⟨b,o+i,none⟩=some (.int .i64 (rm:Int)):=(B_1.out.cell (p:=⟨b,o+i,none⟩) HBB.out).trans C1.out
 have lb:b<u1.heap.size:=Nat.lt_of_lt_of_le HBB.out B_1.out.size
 go_wp2_with fail
 clear ca lb
 refine (roomkey_any _ _).mono ?_
 rintro e u2 ⟨rfl,b2⟩
 clear hcH hlH hcC hlC
 have B_2:=hid (bl B_1.out b2)
 have H_2:=hid (H_1.out.call b2)
 have C_2:=hid (C_1.out.call b2)
 clear b2 B_1 H_1 C_1
 have hcH:=H_2.out.2.2
 have hlH:=H_2.out.2.1
 have hcC:=C_2.out.2.2
 have hlC:=C_2.out.2.1
 go_wp2_with fail
 refine (mekey_any _ _).mono ?_
 rintro e u3 ⟨rfl,b3⟩
 clear hcH hlH hcC hlC
 have B_3:=hid (bl B_2.out b3)
 have H_3:=hid (H_2.out.call b3)
 have C_3:=hid (C_2.out.call b3)
 clear b3 B_2 H_2 C_2
 have hcH:=H_3.out.2.2
 have hlH:=H_3.out.2.1
 have hcC:=C_3.out.2.2
 have hlC:=C_3.out.2.1
 go_wp2_with fail
 clear hcH hlH hcC hlC
 have g0:Dt 2 47 plC (w.heap.size+2) (u3.alloc (.cells #[.int .i64 0,.int .i64 (rm:Int),.int .i64 1,.int .i64 (i:Int)] 47)) (.slice (some ⟨u3.heap.size,0,none⟩) 2 2) [⟨0,(rm:Int)⟩,⟨1,(i:Int)⟩]:=World.ownsRow_lit u3 #[.int .i64 0,.int .i64 (rm:Int),.int .i64 1,.int .i64 (i:Int)] 2 (by have:=C_3.out.2.1;omega) (by unfold maxLen;omega) rfl
 have B_4:=hid (bl B_3.out (b_a (.cells #[.int .i64 0,.int .i64 (rm:Int),.int .i64 1,.int .i64 (i:Int)] 47)))
 have H_4:=hid (H_3.out.call (b_a (.cells #[.int .i64 0,.int .i64 (rm:Int),.int .i64 1,.int .i64 (i:Int)] 47)))
 have C_4:=hid (C_3.out.call (b_a (.cells #[.int .i64 0,.int .i64 (rm:Int),.int .i64 1,.int .i64 (i:Int)] 47)))
 have G_4:=hid g0
 clear g0 B_3 H_3 C_3
 generalize u3.alloc (.cells #[.int .i64 0,.int .i64 (rm:Int),.int .i64 1,.int .i64 (i:Int)] 47)=V4 at *
 generalize Value.slice (some ⟨u3.heap.size,0,none⟩) 2 2=v0 at *
 have hcH:=H_4.out.2.2
 have hlH:=H_4.out.2.1
 have hcC:=C_4.out.2.2
 have hlC:=C_4.out.2.1
 refine (HEX.out _ (HX.out.d.ex.below B_4.out (Nat.le_refl _))).mono ?_
 rintro e u5 ⟨rfl,b5⟩
 clear hcH hlH hcC hlC
 have B_5:=hid (bl B_4.out b5)
 have H_5:=hid (H_4.out.call b5)
 have C_5:=hid (C_4.out.call b5)
 have G_5:=hid (G_4.out.call b5)
 clear b5 B_4 H_4 C_4 G_4
 have hcH:=H_5.out.2.2
 have hlH:=H_5.out.2.1
 have hcC:=C_5.out.2.2
 have hlC:=C_5.out.2.1
 by_cases hT:T=-1
 ·rw [show (T != -1)=false by simpa using hT]
  have HA:=hid hT
  clear hT
  clear hcH hlH hcC hlC
  have hcH:=H_5.out.2.2
  have hlH:=H_5.out.2.1
  have hcC:=C_5.out.2.2
  have hlC:=C_5.out.2.1
  go_wp2_with fail
  by_cases hq:inB c.who x.at_.length=false
  ·have HQ:=hid hq
   have HFI:=hid ((HFL.out [] [] (by rw [if_neg (fun h=>h.2 HA.out)]) (by rw [if_neg (fun h=>by rw [HQ.out] at h;exact absurd h.2 (by decide))])).trans (show _=[⟨0,(rm:Int)⟩,⟨1,(i:Int)⟩] by simp))
   clear hq
   refine (fplayer_any x (⟨pd,some ⟨b,o,none⟩,pac,pk,pkc,pw,pwc⟩:Wp) _ _).mono ?_
   rintro e u6 ⟨rfl,b6⟩
   rw [HQ.out]
   clear hcH hlH hcC hlC
   have B_6:=hid (bl B_5.out b6)
   have H_6:=hid (H_5.out.call b6)
   have C_6:=hid (C_5.out.call b6)
   have G_6:=hid (G_5.out.call b6)
   clear b6 B_5 H_5 C_5 G_5
   have hcH:=H_6.out.2.2
   have hlH:=H_6.out.2.1
   have hcC:=C_6.out.2.2
   have hlC:=C_6.out.2.1
   go_wp2_with fail
   obtain ⟨la,lc,hv,hO⟩:=G_6.out.own Ni
   subst hv
   have HO:=hid hO
   clear hO
   refine (Ai4 la lc _ _ HO.out.row (by rw [←HFI.out];exact HINK.out) (by rw [←HFI.out];have:=foot_short x i c;omega)).mono ?_
   rintro e z1 ⟨fb,fc,s,rfl,hs,hO2,hb2⟩
   have HB9:=hid (bl B_6.out hb2)
   have HS9:=hid hs
   have HO9:=hid (Gb3 hO2 B_6.out.size)
   clear hs hO2 hb2
   clear hcH hlH hcC hlC
   go_wp2_with fail
   go_ret
   exact ⟨fb,fc,s,rfl,by rw [HFI.out];exact HS9.out,HO9.out,HB9.out⟩
  ·replace hq:inB c.who x.at_.length=true:=by simpa using hq
   by_cases hw:c.kind=2∨c.kind=7∨c.kind=8
   ·have HQ:=hid hq
    have HW:=hid hw
    have HFI:=hid ((HFL.out [] [⟨1,c.who⟩] (by rw [if_neg (fun h=>h.2 HA.out)]) (by rw [if_pos ⟨hw,HQ.out⟩])).trans (show _=[⟨0,(rm:Int)⟩,⟨1,(i:Int)⟩]++[⟨1,c.who⟩] by simp))
    have HWB:=hid (show fwhoB c.kind=true by simpa [fwhoB] using hw)
    clear hq hw HW
    refine (fplayer_any x (⟨pd,some ⟨b,o,none⟩,pac,pk,pkc,pw,pwc⟩:Wp) _ _).mono ?_
    rintro e u6 ⟨rfl,b6⟩
    rw [HQ.out]
    clear hcH hlH hcC hlC
    have B_6:=hid (bl B_5.out b6)
    have H_6:=hid (H_5.out.call b6)
    have C_6:=hid (C_5.out.call b6)
    have G_6:=hid (G_5.out.call b6)
    clear b6 B_5 H_5 C_5 G_5
    have hcH:=H_6.out.2.2
    have hlH:=H_6.out.2.1
    have hcC:=C_6.out.2.2
    have hlC:=C_6.out.2.1
    go_wp2_with fail
    refine (haswho_any _ _).mono ?_
    rintro e u56 ⟨rfl,rfl⟩
    rw [HWB.out]
    go_wp2_with fail
    refine (mekey_any _ _).mono ?_
    rintro e u8 ⟨rfl,b8⟩
    clear hcH hlH hcC hlC
    have B_7:=hid (bl B_6.out b8)
    have H_7:=hid (H_6.out.call b8)
    have C_7:=hid (C_6.out.call b8)
    have G_7:=hid (G_6.out.call b8)
    clear b8 B_6 H_6 C_6 G_6
    have hcH:=H_7.out.2.2
    have hlH:=H_7.out.2.1
    have hcC:=C_7.out.2.2
    have hlC:=C_7.out.2.1
    obtain ⟨v9,W9,hr,hG,hg⟩:=G_7.out.one (t:=32) underlying32 keyF_info rfl (by decide) (by decide) Ni plC_one' (⟨1,c.who⟩) (by simp) (by have:=C_7.out.2.1;omega)
    have HR9:=hid (show (Builtin.append_ #[32,32] 32 #[v0,.slice (some ⟨u8.heap.size,0,none⟩) 1 1]).run prog (u8.alloc (.cells #[.int .i64 1,.int .i64 c.who] 47))=.ok v9 W9 by simpa [plC] using hr)
    have lh:w.heap.size<w.heap.size+2:=by omega
    clear hcH hlH hcC hlC
    have B_8:=hid (G_7.out.below B_7.out hg (by omega))
    have H_8:=hid (G_7.out.holds H_7.out hg (by omega) (by omega))
    have C_8:=hid (G_7.out.holds C_7.out hg (by omega) (by omega))
    have G_8:=hid hG
    clear lh hr hG hg B_7 H_7 C_7 G_7
    have hcH:=H_8.out.2.2
    have hlH:=H_8.out.2.1
    have hcC:=C_8.out.2.2
    have hlC:=C_8.out.2.1
    go_wp2_with (at_builtin;refine Bb rfl (.tmp 53) (.tmp 57) 32 rfl _ _ _ _ rfl rfl HR9.out ?_)
    obtain ⟨la,lc,hv,hO⟩:=G_8.out.own Ni
    subst hv
    have HO:=hid hO
    clear hO
    refine (Ai4 la lc _ _ HO.out.row (by rw [←HFI.out];exact HINK.out) (by rw [←HFI.out];have:=foot_short x i c;omega)).mono ?_
    rintro e z1 ⟨fb,fc,s,rfl,hs,hO2,hb2⟩
    have HB9:=hid (bl B_8.out hb2)
    have HS9:=hid hs
    have HO9:=hid (Gb3 hO2 B_8.out.size)
    clear hs hO2 hb2
    clear hcH hlH hcC hlC
    go_wp2_with fail
    go_ret
    exact ⟨fb,fc,s,rfl,by rw [HFI.out];exact HS9.out,HO9.out,HB9.out⟩
   ·have HQ:=hid hq
    have HW:=hid hw
    have HFI:=hid ((HFL.out [] [] (by rw [if_neg (fun h=>h.2 HA.out)]) (by rw [if_neg (fun h=>hw h.1)])).trans (show _=[⟨0,(rm:Int)⟩,⟨1,(i:Int)⟩] by simp))
    have HWB:=hid (show fwhoB c.kind=false by simpa [fwhoB] using hw)
    clear hq hw HW
    refine (fplayer_any x (⟨pd,some ⟨b,o,none⟩,pac,pk,pkc,pw,pwc⟩:Wp) _ _).mono ?_
    rintro e u6 ⟨rfl,b6⟩
    rw [HQ.out]
    clear hcH hlH hcC hlC
    have B_6:=hid (bl B_5.out b6)
    have H_6:=hid (H_5.out.call b6)
    have C_6:=hid (C_5.out.call b6)
    have G_6:=hid (G_5.out.call b6)
    clear b6 B_5 H_5 C_5 G_5
    have hcH:=H_6.out.2.2
    have hlH:=H_6.out.2.1
    have hcC:=C_6.out.2.2
    have hlC:=C_6.out.2.1
    go_wp2_with fail
    refine (haswho_any _ _).mono ?_
    rintro e u56 ⟨rfl,rfl⟩
    rw [HWB.out]
    go_wp2_with fail
    obtain ⟨la,lc,hv,hO⟩:=G_6.out.own Ni
    subst hv
    have HO:=hid hO
    clear hO
    refine (Ai4 la lc _ _ HO.out.row (by rw [←HFI.out];exact HINK.out) (by rw [←HFI.out];have:=foot_short x i c;omega)).mono ?_
    rintro e z1 ⟨fb,fc,s,rfl,hs,hO2,hb2⟩
    have HB9:=hid (bl B_6.out hb2)
    have HS9:=hid hs
    have HO9:=hid (Gb3 hO2 B_6.out.size)
    clear hs hO2 hb2
    clear hcH hlH hcC hlC
    go_wp2_with fail
    go_ret
    exact ⟨fb,fc,s,rfl,by rw [HFI.out];exact HS9.out,HO9.out,HB9.out⟩
 ·by_cases hk:c.kind=1∨c.kind=2
  ·rw [show (T != -1)=true by simpa using hT,show exA T=T by simp [exA,hT]]
   have HA:=hid hT
   have HK:=hid hk
   have HDB:=hid (show fdirB c.kind=true by simpa [fdirB] using hk)
   clear hT hk
   clear hcH hlH hcC hlC
   have hcH:=H_5.out.2.2
   have hlH:=H_5.out.2.1
   have hcC:=C_5.out.2.2
   have hlC:=C_5.out.2.1
   go_wp2_with fail
   refine (hasdir_any _ _).mono ?_
   rintro e u55 ⟨rfl,rfl⟩
   rw [HDB.out]
   go_wp2_with fail
   refine (roomkey_any _ _).mono ?_
   rintro e u7 ⟨rfl,b7⟩
   clear hcH hlH hcC hlC
   have B_6:=hid (bl B_5.out b7)
   have H_6:=hid (H_5.out.call b7)
   have C_6:=hid (C_5.out.call b7)
   have G_6:=hid (G_5.out.call b7)
   clear b7 B_5 H_5 C_5 G_5
   have hcH:=H_6.out.2.2
   have hlH:=H_6.out.2.1
   have hcC:=C_6.out.2.2
   have hlC:=C_6.out.2.1
   obtain ⟨v8,W8,hr,hG,hg⟩:=G_6.out.one (t:=32) underlying32 keyF_info rfl (by decide) (by decide) Ni plC_one' (⟨0,T⟩) (by simp) (by have:=C_6.out.2.1;omega)
   have HR8:=hid (show (Builtin.append_ #[32,32] 32 #[v0,.slice (some ⟨u7.heap.size,0,none⟩) 1 1]).run prog (u7.alloc (.cells #[.int .i64 0,.int .i64 T] 47))=.ok v8 W8 by simpa [plC] using hr)
   have lh:w.heap.size<w.heap.size+2:=by omega
   clear hcH hlH hcC hlC
   have B_7:=hid (G_6.out.below B_6.out hg (by omega))
   have H_7:=hid (G_6.out.holds H_6.out hg (by omega) (by omega))
   have C_7:=hid (G_6.out.holds C_6.out hg (by omega) (by omega))
   have G_7:=hid hG
   clear lh hr hG hg B_6 H_6 C_6 G_6
   have hcH:=H_7.out.2.2
   have hlH:=H_7.out.2.1
   have hcC:=C_7.out.2.2
   have hlC:=C_7.out.2.1
   go_wp2_with (at_builtin;refine Bb rfl (.tmp 39) (.tmp 42) 32 rfl _ _ _ _ rfl rfl HR8.out ?_)
   by_cases hq:inB c.who x.at_.length=false
   ·have HQ:=hid hq
    have HFI:=hid ((HFL.out [⟨0,T⟩] [] (by rw [if_pos ⟨HK.out,HA.out⟩]) (by rw [if_neg (fun h=>by rw [HQ.out] at h;exact absurd h.2 (by decide))])).trans (show _=([⟨0,(rm:Int)⟩,⟨1,(i:Int)⟩]++[⟨0,T⟩]) by simp))
    clear hq
    refine (fplayer_any x (⟨pd,some ⟨b,o,none⟩,pac,pk,pkc,pw,pwc⟩:Wp) _ _).mono ?_
    rintro e u9 ⟨rfl,b9⟩
    rw [HQ.out]
    clear hcH hlH hcC hlC
    have B_8:=hid (bl B_7.out b9)
    have H_8:=hid (H_7.out.call b9)
    have C_8:=hid (C_7.out.call b9)
    have G_8:=hid (G_7.out.call b9)
    clear b9 B_7 H_7 C_7 G_7
    have hcH:=H_8.out.2.2
    have hlH:=H_8.out.2.1
    have hcC:=C_8.out.2.2
    have hlC:=C_8.out.2.1
    go_wp2_with fail
    obtain ⟨la,lc,hv,hO⟩:=G_8.out.own Ni
    subst hv
    have HO:=hid hO
    clear hO
    refine (Ai4 la lc _ _ HO.out.row (by rw [←HFI.out];exact HINK.out) (by rw [←HFI.out];have:=foot_short x i c;omega)).mono ?_
    rintro e z1 ⟨fb,fc,s,rfl,hs,hO2,hb2⟩
    have HB9:=hid (bl B_8.out hb2)
    have HS9:=hid hs
    have HO9:=hid (Gb3 hO2 B_8.out.size)
    clear hs hO2 hb2
    clear hcH hlH hcC hlC
    go_wp2_with fail
    go_ret
    exact ⟨fb,fc,s,rfl,by rw [HFI.out];exact HS9.out,HO9.out,HB9.out⟩
   ·replace hq:inB c.who x.at_.length=true:=by simpa using hq
    by_cases hw:c.kind=2∨c.kind=7∨c.kind=8
    ·have HQ:=hid hq
     have HW:=hid hw
     have HFI:=hid ((HFL.out [⟨0,T⟩] [⟨1,c.who⟩] (by rw [if_pos ⟨HK.out,HA.out⟩]) (by rw [if_pos ⟨hw,HQ.out⟩])).trans (show _=([⟨0,(rm:Int)⟩,⟨1,(i:Int)⟩]++[⟨0,T⟩])++[⟨1,c.who⟩] by simp))
     have HWB:=hid (show fwhoB c.kind=true by simpa [fwhoB] using hw)
     clear hq hw HW
     refine (fplayer_any x (⟨pd,some ⟨b,o,none⟩,pac,pk,pkc,pw,pwc⟩:Wp) _ _).mono ?_
     rintro e u9 ⟨rfl,b9⟩
     rw [HQ.out]
     clear hcH hlH hcC hlC
     have B_8:=hid (bl B_7.out b9)
     have H_8:=hid (H_7.out.call b9)
     have C_8:=hid (C_7.out.call b9)
     have G_8:=hid (G_7.out.call b9)
     clear b9 B_7 H_7 C_7 G_7
     have hcH:=H_8.out.2.2
     have hlH:=H_8.out.2.1
     have hcC:=C_8.out.2.2
     have hlC:=C_8.out.2.1
     go_wp2_with fail
     refine (haswho_any _ _).mono ?_
     rintro e u59 ⟨rfl,rfl⟩
     rw [HWB.out]
     go_wp2_with fail
     refine (mekey_any _ _).mono ?_
     rintro e u11 ⟨rfl,b11⟩
     clear hcH hlH hcC hlC
     have B_9:=hid (bl B_8.out b11)
     have H_9:=hid (H_8.out.call b11)
     have C_9:=hid (C_8.out.call b11)
     have G_9:=hid (G_8.out.call b11)
     clear b11 B_8 H_8 C_8 G_8
     have hcH:=H_9.out.2.2
     have hlH:=H_9.out.2.1
     have hcC:=C_9.out.2.2
     have hlC:=C_9.out.2.1
     obtain ⟨v12,W12,hr,hG,hg⟩:=G_9.out.one (t:=32) underlying32 keyF_info rfl (by decide) (by decide) Ni plC_one' (⟨1,c.who⟩) (by simp) (by have:=C_9.out.2.1;omega)
     have HR12:=hid (show (Builtin.append_ #[32,32] 32 #[v8,.slice (some ⟨u11.heap.size,0,none⟩) 1 1]).run prog (u11.alloc (.cells #[.int .i64 1,.int .i64 c.who] 47))=.ok v12 W12 by simpa [plC] using hr)
     have lh:w.heap.size<w.heap.size+2:=by omega
     clear hcH hlH hcC hlC
     have B_10:=hid (G_9.out.below B_9.out hg (by omega))
     have H_10:=hid (G_9.out.holds H_9.out hg (by omega) (by omega))
     have C_10:=hid (G_9.out.holds C_9.out hg (by omega) (by omega))
     have G_10:=hid hG
     clear lh hr hG hg B_9 H_9 C_9 G_9
     have hcH:=H_10.out.2.2
     have hlH:=H_10.out.2.1
     have hcC:=C_10.out.2.2
     have hlC:=C_10.out.2.1
     go_wp2_with (at_builtin;refine Bb rfl (.tmp 53) (.tmp 57) 32 rfl _ _ _ _ rfl rfl HR12.out ?_)
     obtain ⟨la,lc,hv,hO⟩:=G_10.out.own Ni
     subst hv
     have HO:=hid hO
     clear hO
     refine (Ai4 la lc _ _ HO.out.row (by rw [←HFI.out];exact HINK.out) (by rw [←HFI.out];have:=foot_short x i c;omega)).mono ?_
     rintro e z1 ⟨fb,fc,s,rfl,hs,hO2,hb2⟩
     have HB9:=hid (bl B_10.out hb2)
     have HS9:=hid hs
     have HO9:=hid (Gb3 hO2 B_10.out.size)
     clear hs hO2 hb2
     clear hcH hlH hcC hlC
     go_wp2_with fail
     go_ret
     exact ⟨fb,fc,s,rfl,by rw [HFI.out];exact HS9.out,HO9.out,HB9.out⟩
    ·have HQ:=hid hq
     have HW:=hid hw
     have HFI:=hid ((HFL.out [⟨0,T⟩] [] (by rw [if_pos ⟨HK.out,HA.out⟩]) (by rw [if_neg (fun h=>hw h.1)])).trans (show _=([⟨0,(rm:Int)⟩,⟨1,(i:Int)⟩]++[⟨0,T⟩]) by simp))
     have HWB:=hid (show fwhoB c.kind=false by simpa [fwhoB] using hw)
     clear hq hw HW
     refine (fplayer_any x (⟨pd,some ⟨b,o,none⟩,pac,pk,pkc,pw,pwc⟩:Wp) _ _).mono ?_
     rintro e u9 ⟨rfl,b9⟩
     rw [HQ.out]
     clear hcH hlH hcC hlC
     have B_8:=hid (bl B_7.out b9)
     have H_8:=hid (H_7.out.call b9)
     have C_8:=hid (C_7.out.call b9)
     have G_8:=hid (G_7.out.call b9)
     clear b9 B_7 H_7 C_7 G_7
     have hcH:=H_8.out.2.2
     have hlH:=H_8.out.2.1
     have hcC:=C_8.out.2.2
     have hlC:=C_8.out.2.1
     go_wp2_with fail
     refine (haswho_any _ _).mono ?_
     rintro e u59 ⟨rfl,rfl⟩
     rw [HWB.out]
     go_wp2_with fail
     obtain ⟨la,lc,hv,hO⟩:=G_8.out.own Ni
     subst hv
     have HO:=hid hO
     clear hO
     refine (Ai4 la lc _ _ HO.out.row (by rw [←HFI.out];exact HINK.out) (by rw [←HFI.out];have:=foot_short x i c;omega)).mono ?_
     rintro e z1 ⟨fb,fc,s,rfl,hs,hO2,hb2⟩
     have HB9:=hid (bl B_8.out hb2)
     have HS9:=hid hs
     have HO9:=hid (Gb3 hO2 B_8.out.size)
     clear hs hO2 hb2
     clear hcH hlH hcC hlC
     go_wp2_with fail
     go_ret
     exact ⟨fb,fc,s,rfl,by rw [HFI.out];exact HS9.out,HO9.out,HB9.out⟩
  ·rw [show (T != -1)=true by simpa using hT,show exA T=T by simp [exA,hT]]
   have HA:=hid hT
   have HK:=hid hk
   have HDB:=hid (show fdirB c.kind=false by simpa [fdirB] using hk)
   clear hT hk
   clear hcH hlH hcC hlC
   have hcH:=H_5.out.2.2
   have hlH:=H_5.out.2.1
   have hcC:=C_5.out.2.2
   have hlC:=C_5.out.2.1
   go_wp2_with fail
   refine (hasdir_any _ _).mono ?_
   rintro e u55 ⟨rfl,rfl⟩
   rw [HDB.out]
   go_wp2_with fail
   by_cases hq:inB c.who x.at_.length=false
   ·have HQ:=hid hq
    have HFI:=hid ((HFL.out [] [] (by rw [if_neg (fun h=>HK.out h.1)]) (by rw [if_neg (fun h=>by rw [HQ.out] at h;exact absurd h.2 (by decide))])).trans (show _=[⟨0,(rm:Int)⟩,⟨1,(i:Int)⟩] by simp))
    clear hq
    refine (fplayer_any x (⟨pd,some ⟨b,o,none⟩,pac,pk,pkc,pw,pwc⟩:Wp) _ _).mono ?_
    rintro e u7 ⟨rfl,b7⟩
    rw [HQ.out]
    clear hcH hlH hcC hlC
    have B_6:=hid (bl B_5.out b7)
    have H_6:=hid (H_5.out.call b7)
    have C_6:=hid (C_5.out.call b7)
    have G_6:=hid (G_5.out.call b7)
    clear b7 B_5 H_5 C_5 G_5
    have hcH:=H_6.out.2.2
    have hlH:=H_6.out.2.1
    have hcC:=C_6.out.2.2
    have hlC:=C_6.out.2.1
    go_wp2_with fail
    obtain ⟨la,lc,hv,hO⟩:=G_6.out.own Ni
    subst hv
    have HO:=hid hO
    clear hO
    refine (Ai4 la lc _ _ HO.out.row (by rw [←HFI.out];exact HINK.out) (by rw [←HFI.out];have:=foot_short x i c;omega)).mono ?_
    rintro e z1 ⟨fb,fc,s,rfl,hs,hO2,hb2⟩
    have HB9:=hid (bl B_6.out hb2)
    have HS9:=hid hs
    have HO9:=hid (Gb3 hO2 B_6.out.size)
    clear hs hO2 hb2
    clear hcH hlH hcC hlC
    go_wp2_with fail
    go_ret
    exact ⟨fb,fc,s,rfl,by rw [HFI.out];exact HS9.out,HO9.out,HB9.out⟩
   ·replace hq:inB c.who x.at_.length=true:=by simpa using hq
    by_cases hw:c.kind=2∨c.kind=7∨c.kind=8
    ·have HQ:=hid hq
     have HW:=hid hw
     have HFI:=hid ((HFL.out [] [⟨1,c.who⟩] (by rw [if_neg (fun h=>HK.out h.1)]) (by rw [if_pos ⟨hw,HQ.out⟩])).trans (show _=[⟨0,(rm:Int)⟩,⟨1,(i:Int)⟩]++[⟨1,c.who⟩] by simp))
     have HWB:=hid (show fwhoB c.kind=true by simpa [fwhoB] using hw)
     clear hq hw HW
     refine (fplayer_any x (⟨pd,some ⟨b,o,none⟩,pac,pk,pkc,pw,pwc⟩:Wp) _ _).mono ?_
     rintro e u7 ⟨rfl,b7⟩
     rw [HQ.out]
     clear hcH hlH hcC hlC
     have B_6:=hid (bl B_5.out b7)
     have H_6:=hid (H_5.out.call b7)
     have C_6:=hid (C_5.out.call b7)
     have G_6:=hid (G_5.out.call b7)
     clear b7 B_5 H_5 C_5 G_5
     have hcH:=H_6.out.2.2
     have hlH:=H_6.out.2.1
     have hcC:=C_6.out.2.2
     have hlC:=C_6.out.2.1
     go_wp2_with fail
     refine (haswho_any _ _).mono ?_
     rintro e u57 ⟨rfl,rfl⟩
     rw [HWB.out]
     go_wp2_with fail
     refine (mekey_any _ _).mono ?_
     rintro e u9 ⟨rfl,b9⟩
     clear hcH hlH hcC hlC
     have B_7:=hid (bl B_6.out b9)
     have H_7:=hid (H_6.out.call b9)
     have C_7:=hid (C_6.out.call b9)
     have G_7:=hid (G_6.out.call b9)
     clear b9 B_6 H_6 C_6 G_6
     have hcH:=H_7.out.2.2
     have hlH:=H_7.out.2.1
     have hcC:=C_7.out.2.2
     have hlC:=C_7.out.2.1
     obtain ⟨v10,W10,hr,hG,hg⟩:=G_7.out.one (t:=32) underlying32 keyF_info rfl (by decide) (by decide) Ni plC_one' (⟨1,c.who⟩) (by simp) (by have:=C_7.out.2.1;omega)
     have HR10:=hid (show (Builtin.append_ #[32,32] 32 #[v0,.slice (some ⟨u9.heap.size,0,none⟩) 1 1]).run prog (u9.alloc (.cells #[.int .i64 1,.int .i64 c.who] 47))=.ok v10 W10 by simpa [plC] using hr)
     have lh:w.heap.size<w.heap.size+2:=by omega
     clear hcH hlH hcC hlC
     have B_8:=hid (G_7.out.below B_7.out hg (by omega))
     have H_8:=hid (G_7.out.holds H_7.out hg (by omega) (by omega))
     have C_8:=hid (G_7.out.holds C_7.out hg (by omega) (by omega))
     have G_8:=hid hG
     clear lh hr hG hg B_7 H_7 C_7 G_7
     have hcH:=H_8.out.2.2
     have hlH:=H_8.out.2.1
     have hcC:=C_8.out.2.2
     have hlC:=C_8.out.2.1
     go_wp2_with (at_builtin;refine Bb rfl (.tmp 53) (.tmp 57) 32 rfl _ _ _ _ rfl rfl HR10.out ?_)
     obtain ⟨la,lc,hv,hO⟩:=G_8.out.own Ni
     subst hv
     have HO:=hid hO
     clear hO
     refine (Ai4 la lc _ _ HO.out.row (by rw [←HFI.out];exact HINK.out) (by rw [←HFI.out];have:=foot_short x i c;omega)).mono ?_
     rintro e z1 ⟨fb,fc,s,rfl,hs,hO2,hb2⟩
     have HB9:=hid (bl B_8.out hb2)
     have HS9:=hid hs
     have HO9:=hid (Gb3 hO2 B_8.out.size)
     clear hs hO2 hb2
     clear hcH hlH hcC hlC
     go_wp2_with fail
     go_ret
     exact ⟨fb,fc,s,rfl,by rw [HFI.out];exact HS9.out,HO9.out,HB9.out⟩
    ·have HQ:=hid hq
     have HW:=hid hw
     have HFI:=hid ((HFL.out [] [] (by rw [if_neg (fun h=>HK.out h.1)]) (by rw [if_neg (fun h=>hw h.1)])).trans (show _=[⟨0,(rm:Int)⟩,⟨1,(i:Int)⟩] by simp))
     have HWB:=hid (show fwhoB c.kind=false by simpa [fwhoB] using hw)
     clear hq hw HW
     refine (fplayer_any x (⟨pd,some ⟨b,o,none⟩,pac,pk,pkc,pw,pwc⟩:Wp) _ _).mono ?_
     rintro e u7 ⟨rfl,b7⟩
     rw [HQ.out]
     clear hcH hlH hcC hlC
     have B_6:=hid (bl B_5.out b7)
     have H_6:=hid (H_5.out.call b7)
     have C_6:=hid (C_5.out.call b7)
     have G_6:=hid (G_5.out.call b7)
     clear b7 B_5 H_5 C_5 G_5
     have hcH:=H_6.out.2.2
     have hlH:=H_6.out.2.1
     have hcC:=C_6.out.2.2
     have hlC:=C_6.out.2.1
     go_wp2_with fail
     refine (haswho_any _ _).mono ?_
     rintro e u57 ⟨rfl,rfl⟩
     rw [HWB.out]
     go_wp2_with fail
     obtain ⟨la,lc,hv,hO⟩:=G_6.out.own Ni
     subst hv
     have HO:=hid hO
     clear hO
     refine (Ai4 la lc _ _ HO.out.row (by rw [←HFI.out];exact HINK.out) (by rw [←HFI.out];have:=foot_short x i c;omega)).mono ?_
     rintro e z1 ⟨fb,fc,s,rfl,hs,hO2,hb2⟩
     have HB9:=hid (bl B_6.out hb2)
     have HS9:=hid hs
     have HO9:=hid (Gb3 hO2 B_6.out.size)
     clear hs hO2 hb2
     clear hcH hlH hcC hlC
     go_wp2_with fail
     go_ret
     exact ⟨fb,fc,s,rfl,by rw [HFI.out];exact HS9.out,HO9.out,HB9.out⟩
end
section
open Go.RowKit Go
def covA (l:List Pl) (x y:Wd) (p:Nat):Bool:=(decide (x.at_.getD p 0=y.at_.getD p 0)&&decide (Al x p=Al y p))||decide ((⟨1,(p:Int)⟩:Pl)∈l)
def covB (l:List Pl) (x y:Wd) (n:Nat):Bool:=decide (plOf x.wher n=plOf y.wher n)||(decide (Bh x.wher n∈l)&&decide (Bh y.wher n∈l))
theorem cover_yes {l:List Pl} {x y:Wd} (h1:∀p,p<x.at_.length→covA l x y p=true) (h2:∀n,n<x.wher.length→covB l x y n=true):Hk8 l x y=true:=by
 unfold Hk8
 rw [Bool.and_eq_true,List.all_eq_true,List.all_eq_true]
 exact ⟨fun p hp=>h1 p (List.mem_range.1 hp),fun n hn=>h2 n (List.mem_range.1 hn)⟩
theorem cover_noA {l:List Pl} {x y:Wd} {p:Nat} (hp:p<x.at_.length) (h:covA l x y p=false):Hk8 l x y=false:=by
 rw [Bool.eq_false_iff]
 intro hc
 unfold Hk8 at hc
 rw [Bool.and_eq_true,List.all_eq_true,List.all_eq_true] at hc
 have:=hc.1 p (List.mem_range.2 hp)
 exact absurd ((show covA l x y p=true from this).symm.trans h) (by decide)
theorem cover_noB {l:List Pl} {x y:Wd} {p:Nat} (hp:p<x.wher.length) (h:covB l x y p=false):Hk8 l x y=false:=by
 rw [Bool.eq_false_iff]
 intro hc
 unfold Hk8 at hc
 rw [Bool.and_eq_true,List.all_eq_true,List.all_eq_true] at hc
 have:=hc.2 p (List.mem_range.2 hp)
 exact absurd ((show covB l x y p=true from this).symm.trans h) (by decide)
theorem less_succ {P:Nat→Prop} {k:Nat} (h:∀p,p<k→P p) (h2:P k):∀p,p<k+1→P p:=fun p hp=>by
 by_cases e:p=k
 ·rw [e];exact h2
 ·exact h p (by omega)
theorem rcovers_any (x y:Wd) (p q:Wp) (a:Option Addr) (cap:Nat) (l:List Pl) (w:World) (hx:Ai x=true) (hy:Ai y=true) (h1:y.at_.length=x.at_.length) (h3:y.wher.length=x.wher.length) (hp:Ab w p x) (hq:Ab w q y) (hl:Au w a l) :
 Calls prog 14 #[.slice a l.length cap,.agg (wC x p),.agg (wC y q)] w fun e w'=>e=.returned (.bool (Hk8 l x y))∧Below w.heap.size w w':=by
 have l1:=(Aj hx).2.2.1
 have l2:=(Aj hy).2.2.1
 have m1:=hp.at_.len
 have m2:=hp.wh.len
 have HP:=hid hp
 have HQ:=hid hq
 have HL:=hid hl
 have HX:=hid (Bv hx)
 have HY:=hid (Bv hy)
 have L1:=hid h1
 have L2:=hid (show y.coins.length=x.at_.length by omega)
 have L4:=hid l1
 have L3:=hid h3
 clear hx hy h1 h3 hp hq hl l1 l2
 have HP0:=hid (Ac.pair w (wC x p) (wC y q) 29 29)
 obtain ⟨pd,pa,pac,pk,pkc,pw,pwc⟩:=p
 obtain ⟨qd,qa,qac,qk,qkc,qw,qwc⟩:=q
 have PA:=hid HP.out.at_
 have PC:=hid HP.out.co
 have PW:=hid HP.out.wh
 have QA:=hid HQ.out.at_
 have QC:=hid HQ.out.co
 have QW:=hid HQ.out.wh
 dsimp only at HP0 PA PC PW QA QC QW
 clear HP HQ
 have hWC:=@wC.eq_1
 go_enter func14,ntmps14
 go_wp2_with fail
 generalize (w.alloc (.cells (wC x ⟨pd,pa,pac,pk,pkc,pw,pwc⟩) 29)).alloc (.cells (wC y ⟨qd,qa,qac,qk,qkc,qw,qwc⟩) 29)=V0 at *
 go_loopw [7,8] (fun i _ wr=>∃k:Nat,k≤x.at_.length∧i=.int .i64 k∧(∀p,p<k→covA l x y p=true)∧Ac w w.heap.size (wC x ⟨pd,pa,pac,pk,pkc,pw,pwc⟩) wr∧Ac w (w.heap.size+1) (wC y ⟨qd,qa,qac,qk,qkc,qw,qwc⟩) wr) (fun i _ _=>x.at_.length-(intOf i).toNat)
 case atStart=>exact ⟨0,Nat.zero_le _,rfl,fun p hp=>by omega,HP0.out⟩
 case round =>
  obtain ⟨k,hk,rfl,hall,hh0,hh1⟩:=hrel
  have HA:=hid hall
  have H0:=hid hh0
  have H1:=hid hh1
  have hc0:=hh0.2.2
  have hl0:=hh0.2.1
  have hc1:=hh1.2.2
  have hl1:=hh1.2.1
  clear hall HP0
  by_cases hlt:k<x.at_.length
  ·have hlt2:k<y.at_.length:=by have:=L1.out;omega
   have hlt3:k<x.coins.length:=by have:=L4.out;omega
   have hlt4:k<y.coins.length:=by have:=L2.out;omega
   obtain ⟨ab,ao,rfl,al,ac⟩:=(PA.out.below hh0.1 (Nat.le_refl _)).at_ hlt
   have u0:=ac k hlt
   obtain ⟨bb,bo,rfl,bl,bc⟩:=(QA.out.below hh0.1 (Nat.le_refl _)).at_ hlt2
   have u1:=bc k hlt2
   obtain ⟨cb,co,rfl,cl,cc⟩:=(PC.out.below hh0.1 (Nat.le_refl _)).at_ hlt3
   have u2:=cc k hlt3
   obtain ⟨gb,go,rfl,gl,gc⟩:=(QC.out.below hh0.1 (Nat.le_refl _)).at_ hlt4
   have u3:=gc k hlt4
   have HCV:=hid (show covA l x y k=((decide (x.at_[k]=y.at_[k])&&decide (x.coins[k]=y.coins[k]))||decide ((⟨1,(k:Int)⟩:Pl)∈l)) by simp [covA,Al,List.getD,hlt,hlt2,hlt3,hlt4])
   have HNL:=hid (fun nq=>HL.out.below (Ib hh0.1 nq) (Nat.le_refl _))
   have hw:IntKind.i64.wrap ((k:Int)+1)=(k:Int)+1:=IntWalk.i64_in _ (by omega)
   clear ac bc cc gc hh0 hh1
   generalize x.at_[k]=a1 at *
   generalize y.at_[k]=a2 at *
   generalize x.coins[k]=b1 at *
   generalize y.coins[k]=b2 at *
   by_cases e1:a1=a2
   ·by_cases e2:b1=b2
    ·have HV:=hid (show covA l x y k=true by rw [HCV.out,decide_eq_true e1,decide_eq_true e2];rfl)
     have q1:(a1==a2)=true:=by simpa using e1
     have q2:(b1==b2)=true:=by simpa using e2
     clear e1 e2
     go_wp2_with fail
     go_quiet (fail)
     go_wp2_with fail
     go_roundw
     case rel=>exact ⟨k+1,by omega,by go_num,less_succ HA.out HV.out,H0.out.call (Ib (Below.refl _ _) _),H1.out.call (Ib (Below.refl _ _) _)⟩
     case measure=>simp [intOf];omega
    ·have HDF:=hid (show (decide (a1=a2)&&decide (b1=b2))=false by rw [decide_eq_false e2,Bool.and_false])
     have q1:(a1==a2)=true:=by simpa using e1
     have q2:(b1==b2)=false:=by simpa using e2
     clear e1 e2
     go_wp2_with fail
     go_quiet (fail)
     go_wp2_with fail
     refine (has_any a cap l ⟨1,(k:Int)⟩ _ (HNL.out _)).mono ?_
     rintro e u1 ⟨rfl,rfl⟩
     by_cases hz:(⟨1,(k:Int)⟩:Pl)∈l
     ·have HV:=hid (show covA l x y k=true by rw [HCV.out,decide_eq_true hz,Bool.or_true])
      rw [decide_eq_true hz]
      clear hz
      go_wp2_with fail
      go_roundw
      case rel=>exact ⟨k+1,by omega,by go_num,less_succ HA.out HV.out,H0.out.call (Ib (Below.refl _ _) _),H1.out.call (Ib (Below.refl _ _) _)⟩
      case measure=>simp [intOf];omega
     ·have HV:=hid (show Hk8 l x y=false from cover_noA hlt (by rw [HCV.out,decide_eq_false hz,HDF.out];rfl))
      rw [decide_eq_false hz]
      clear hz
      go_wp2_with fail
      go_ret
      exact ⟨Ag HV.out.symm,Ib H0.out.1 _⟩
   ·have HDF:=hid (show (decide (a1=a2)&&decide (b1=b2))=false by rw [decide_eq_false e1,Bool.false_and])
    have q1:(a1==a2)=false:=by simpa using e1
    clear e1
    go_wp2_with fail
    go_quiet (fail)
    go_wp2_with fail
    refine (has_any a cap l ⟨1,(k:Int)⟩ _ (HNL.out _)).mono ?_
    rintro e u1 ⟨rfl,rfl⟩
    by_cases hz:(⟨1,(k:Int)⟩:Pl)∈l
    ·have HV:=hid (show covA l x y k=true by rw [HCV.out,decide_eq_true hz,Bool.or_true])
     rw [decide_eq_true hz]
     clear hz
     go_wp2_with fail
     go_roundw
     case rel=>exact ⟨k+1,by omega,by go_num,less_succ HA.out HV.out,H0.out.call (Ib (Below.refl _ _) _),H1.out.call (Ib (Below.refl _ _) _)⟩
     case measure=>simp [intOf];omega
    ·have HV:=hid (show Hk8 l x y=false from cover_noA hlt (by rw [HCV.out,decide_eq_false hz,HDF.out];rfl))
     rw [decide_eq_false hz]
     clear hz
     go_wp2_with fail
     go_ret
     exact ⟨Ag HV.out.symm,Ib H0.out.1 _⟩
  ·have hke:k=x.at_.length:=by omega
   subst hke
   clear hh0 hh1
   obtain ⟨wp,hwp⟩:∃z,z=wr:=⟨_,rfl⟩
   subst hwp
   go_wp2_with fail
   go_loopw [9,10,11] (fun i _ _ wr=>∃k:Nat,k≤x.wher.length∧i=.int .i64 k∧(∀p,p<k→covB l x y p=true)∧Ac w w.heap.size (wC x ⟨pd,pa,pac,pk,pkc,pw,pwc⟩) wr∧Ac w (w.heap.size+1) (wC y ⟨qd,qa,qac,qk,qkc,qw,qwc⟩) wr) (fun i _ _ _=>x.wher.length-(intOf i).toNat)
   case atStart=>exact ⟨0,Nat.zero_le _,rfl,fun p hp=>by omega,H0.out,H1.out⟩
   case round =>
    obtain ⟨k,hk,rfl,hall,hh0,hh1⟩:=hrel
    have HA2:=hid hall
    clear H0 H1 hc0 hl0 hc1 hl1
    have H0:=hid hh0
    have H1:=hid hh1
    have hc0:=hh0.2.2
    have hl0:=hh0.2.1
    have hc1:=hh1.2.2
    have hl1:=hh1.2.1
    clear hall
    by_cases hlt:k<x.wher.length
    ·have hlt2:k<y.wher.length:=by have:=L3.out;omega
     obtain ⟨ab,ao,rfl,al,u0,u1⟩:=Au.cells (PW.out.below hh0.1 (Nat.le_refl _)) hlt
     obtain ⟨bb,bo,rfl,bl2,u2,u3⟩:=Au.cells (QW.out.below hh0.1 (Nat.le_refl _)) hlt2
     have HCV:=hid (show covB l x y k=(decide (x.wher[k]=y.wher[k])||(decide (Bh x.wher k∈l)&&decide (Bh y.wher k∈l))) by rw [covB,Bo hlt,Bo hlt2])
     have hw:IntKind.i64.wrap ((k:Int)+1)=(k:Int)+1:=IntWalk.i64_in _ (by omega)
     have HR1:=hid (fun (V:World) (hb:Below w.heap.size w V)=>Lc x ⟨pd,pa,pac,pk,pkc,some ⟨ab,ao,none⟩,pwc⟩ HX.out k hlt V (PW.out.below hb (Nat.le_refl _)))
     have HR2:=hid (fun (V:World) (hb:Below w.heap.size w V)=>Lc y ⟨qd,qa,qac,qk,qkc,some ⟨bb,bo,none⟩,qwc⟩ HY.out k hlt2 V (QW.out.below hb (Nat.le_refl _)))
     generalize Bh x.wher k=r1 at *
     generalize Bh y.wher k=r2 at *
     obtain ⟨r10,r11⟩:=r1
     obtain ⟨r20,r21⟩:=r2
     clear hh0 hh1
     generalize x.wher[k]=z1 at *
     generalize y.wher[k]=z2 at *
     obtain ⟨x0,x1⟩:=z1
     obtain ⟨y0,y1⟩:=z2
     simp only at u0 u1 u2 u3
     have hrun:=Ey x0 x1 y0 y1
     by_cases he:(⟨x0,x1⟩:Pl)=⟨y0,y1⟩
     ·have HV:=hid (show covB l x y k=true by rw [HCV.out,decide_eq_true he,Bool.true_or])
      simp only [he,decide_true] at hrun
      clear he
      go_wp2_with fail
      go_quiet (fail)
      go_wp2_with fail
      go_roundw
      case rel=>exact ⟨k+1,by omega,by go_num,less_succ HA2.out HV.out,H0.out.call (Ib (Below.refl _ _) _),H1.out.call (Ib (Below.refl _ _) _)⟩
      case measure=>simp [intOf];omega
     ·have HDF:=hid (show decide ((⟨x0,x1⟩:Pl)=⟨y0,y1⟩)=false from decide_eq_false he)
      simp only [he,decide_false] at hrun
      clear he
      go_wp2_with fail
      go_quiet (fail)
      have H_0:=hid (H0.out.call (Ib (Below.refl _ _) nq))
      have C_0:=hid (H1.out.call (Ib (Below.refl _ _) nq))
      have B_0:=hid H_0.out.1
      clear H0 H1 hc0 hl0 hc1 hl1 u0 u1 u2 u3 hrun
      generalize wr.drewN nq=V1 at *
      have hcH:=H_0.out.2.2
      have hlH:=H_0.out.2.1
      have hcC:=C_0.out.2.2
      have hlC:=C_0.out.2.1
      go_wp2_with fail
      refine (HR1.out _ B_0.out).mono ?_
      rintro e u1 ⟨rfl,b1⟩
      clear hcH hlH hcC hlC
      have B_1:=hid (bl B_0.out b1)
      have H_1:=hid (H_0.out.call b1)
      have C_1:=hid (C_0.out.call b1)
      clear b1 B_0 H_0 C_0
      have hcH:=H_1.out.2.2
      have hlH:=H_1.out.2.1
      have hcC:=C_1.out.2.2
      have hlC:=C_1.out.2.1
      go_wp2_with fail
      clear hcH hlH hcC hlC
      have s2:(u1.alloc (.cells #[.int .i64 r10,.int .i64 r11] 52)).heap.size=u1.heap.size+1:=by simp
      have zb2:Below u1.heap.size u1 (u1.alloc (.cells #[.int .i64 r10,.int .i64 r11] 52)):=b_a _
      have B_2:=hid (bl B_1.out zb2)
      have H_2:=hid (H_1.out.call zb2)
      have C_2:=hid (C_1.out.call zb2)
      have RA_2:=hid (Ac.newb (w:=w) (A:=#[.int .i64 r10,.int .i64 r11]) (t:=52) (n:=u1.heap.size) B_1.out rfl)
      clear zb2 B_1 H_1 C_1
      generalize u1.alloc (.cells #[.int .i64 r10,.int .i64 r11] 52)=V2 at *
      have hcH:=H_2.out.2.2
      have hlH:=H_2.out.2.1
      have hcC:=C_2.out.2.2
      have hlC:=C_2.out.2.1
      have hcRA:=RA_2.out.2.2
      have hlRA:=RA_2.out.2.1
      refine (HR2.out _ B_2.out).mono ?_
      rintro e u3 ⟨rfl,b3⟩
      clear hcH hlH hcC hlC hcRA hlRA
      have B_3:=hid (bl B_2.out b3)
      have H_3:=hid (H_2.out.call b3)
      have C_3:=hid (C_2.out.call b3)
      have RA_3:=hid (RA_2.out.call b3)
      clear b3 B_2 H_2 C_2 RA_2
      have hcH:=H_3.out.2.2
      have hlH:=H_3.out.2.1
      have hcC:=C_3.out.2.2
      have hlC:=C_3.out.2.1
      have hcRA:=RA_3.out.2.2
      have hlRA:=RA_3.out.2.1
      go_wp2_with fail
      clear hcH hlH hcC hlC hcRA hlRA
      have s4:(u3.alloc (.cells #[.int .i64 r20,.int .i64 r21] 52)).heap.size=u3.heap.size+1:=by simp
      have zb4:Below u3.heap.size u3 (u3.alloc (.cells #[.int .i64 r20,.int .i64 r21] 52)):=b_a _
      have B_4:=hid (bl B_3.out zb4)
      have H_4:=hid (H_3.out.call zb4)
      have C_4:=hid (C_3.out.call zb4)
      have RA_4:=hid (RA_3.out.call zb4)
      have RB_4:=hid (Ac.newb (w:=w) (A:=#[.int .i64 r20,.int .i64 r21]) (t:=52) (n:=u3.heap.size) B_3.out rfl)
      clear zb4 B_3 H_3 C_3 RA_3
      generalize u3.alloc (.cells #[.int .i64 r20,.int .i64 r21] 52)=V4 at *
      have hcH:=H_4.out.2.2
      have hlH:=H_4.out.2.1
      have hcC:=C_4.out.2.2
      have hlC:=C_4.out.2.1
      have hcRA:=RA_4.out.2.2
      have hlRA:=RA_4.out.2.1
      have hcRB:=RB_4.out.2.2
      have hlRB:=RB_4.out.2.1
      refine (has_any a cap l ⟨r10,r11⟩ _ (HL.out.below B_4.out (Nat.le_refl _))).mono ?_
      rintro e uu ⟨rfl,rfl⟩
      by_cases hz:(⟨r10,r11⟩:Pl)∈l
      ·have HZ:=hid hz
       rw [decide_eq_true hz]
       clear hz
       go_wp2_with fail
       refine (has_any a cap l ⟨r20,r21⟩ _ (HL.out.below B_4.out (Nat.le_refl _))).mono ?_
       rintro e uu ⟨rfl,rfl⟩
       by_cases hz2:(⟨r20,r21⟩:Pl)∈l
       ·have HV:=hid (show covB l x y k=true by rw [HCV.out,decide_eq_true HZ.out,decide_eq_true hz2,Bool.and_self,Bool.or_true])
        rw [decide_eq_true hz2]
        clear hz2
        go_wp2_with fail
        go_roundw
        case rel=>exact ⟨k+1,by omega,by go_num,less_succ HA2.out HV.out,H_4.out,C_4.out⟩
        case measure=>simp [intOf];omega
       ·have HV:=hid (show Hk8 l x y=false from cover_noB hlt (by rw [HCV.out,HDF.out,decide_eq_false hz2,Bool.and_false];rfl))
        rw [decide_eq_false hz2]
        clear hz2
        go_wp2_with fail
        go_ret
        exact ⟨Ag HV.out.symm,B_4.out⟩
      ·have HV:=hid (show Hk8 l x y=false from cover_noB hlt (by rw [HCV.out,HDF.out,decide_eq_false hz,Bool.false_and];rfl))
       rw [decide_eq_false hz]
       clear hz
       go_wp2_with fail
       go_ret
       exact ⟨Ag HV.out.symm,B_4.out⟩
    ·have hke:k=x.wher.length:=by omega
     subst hke
     have HV:=hid (cover_yes HA.out HA2.out)
     clear hh0 hh1
     go_wp2_with fail
     go_ret
     exact ⟨Ag HV.out.symm,H0.out.1⟩
end
section
open Go.RowKit Go
theorem may16 {c:Cm} (h:Ak c=true):(0≤c.dir∧c.dir<4)∧0≤c.who:=by
 simp only [Ak,Dl,Cq,Cf,okN,Bool.and_eq_true,decide_eq_true_eq] at h
 refine ⟨h.1.1.1.1.1.1.1.1.2,?_⟩
 have h2:=h.1.1.1.1.2
 split at h2
 ·rw [Bool.and_eq_true,decide_eq_true_eq] at h2;exact h2.1
 ·rw [decide_eq_true_eq] at h2;omega
theorem right_pl16 {x:Wd} (h:Ai x=true):x.d.players.length=x.at_.length:=by
 simp only [Ai,Bool.and_eq_true] at h
 have hf:=Kv h.1
 have h1:=h.2.1
 simp only [Dr,Bool.and_eq_true,decide_eq_true_eq] at h1
 omega
theorem fits_small {x:Wd} (h:fewB x=true):x.at_.length+x.coins.length+2*x.wher.length≤100000:=by
 simp [fewB] at h;omega
def CAt (W:World) (b o:Nat) (v:Value):Prop:=W.cell? ⟨b,o,none⟩=some v∧b<W.heap.size
theorem CAt.call {W W':World} {b o:Nat} {v:Value} (h:CAt W b o v) (hb:Below W.heap.size W W'):CAt W' b o v:=⟨Ad h.1 hb,Nat.lt_of_lt_of_le h.2 hb.size⟩
section
variable {x y:Wd} (hs:Am x y) (p q:Wp) (a:Option Addr) (cap:Nat) (l:List Pl) (w:World) (hx:Ai x=true) (hy:Ai y=true) (hsz:x.at_.length+x.coins.length+2*x.wher.length≤100000) (hp:Ab w p x) (hq:Ab w q y) (hl:Au w a l)
include hs hx hy hp hq hl
theorem rcovers_as:Calls prog 14 #[.slice a l.length cap,.agg (wC x p),.agg (wC x q)] w fun e w'=>e=.returned (.bool (Hk8 l x y))∧Below w.heap.size w w':=by
 have:=rcovers_any x y p q a cap l w hx hy hs.at_ hs.w hp hq hl
 rw [hs.val] at this
 exact this
include hsz
theorem covers_as:Calls prog 13 #[.slice a l.length cap,.agg (wC x p),.agg (wC x q)] w fun e w'=>e=.returned (.bool (Hk8 l x y))∧Below w.heap.size w w':=by
 have:=covers_any x y p q a cap l w hx hy hs.at_ hs.w hsz hp hq hl
 rw [hs.val] at this
 exact this
end
end
end Go.Proofs.Ytenpcndoilcjcaa
