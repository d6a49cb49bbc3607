/- The document's own answers on worlds: Few, Many, Cap, Depth. -/
import Derived.Test.YtnhkojpbbdaedaaGreatGDescN
import Derived.Test.YtnhkojpbbdaedaaGreatGCopy
import Derived.Test.YtnhkojpbbdaedaaGreatGEq
namespace Go.Proofs.YtnhkojpbbdaedaaGreat
open Go.ChangeShapes Go.WideShapes Go.ChangeAt Go.RowKit Go.Proofs.Tryz
set_option linter.unusedVariables false
set_option maxRecDepth 100000
section
def fewB (x:Wd):Bool:=decide (x.d.exits.length≤20)&&(decide (x.d.players.length≤20)&&(decide (x.d.coins.length≤20)&&(decide (x.d.items.length≤40)&&(decide (x.d.boxes.length≤40)&&(decide (x.at_.length≤40)&&(decide (x.coins.length≤40)&&decide (x.wher.length≤40)))))))
theorem El (x:Wd) (p:Wp) (w:World):Calls prog 5 #[.agg (wC x p)] w fun e w'=>e=.returned (.bool (fewB x))∧Below w.heap.size w w':=by
 have HB:=Lib.hid (((Below.refl w.heap.size w).alloc (Nat.le_refl _) (.cells (wC x p) 29)).alloc (by simp) (.cells (dC x.d p.d) 26))
 by_cases e0:x.d.exits.length≤20
 rotate_left
 ·have q0:¬(x.d.exits.length:Int)≤20:=by omega
  have HR:=Lib.hid (show fewB x=false by simp [fewB,e0])
  clear e0
  have hWC:=@wC.eq_1
  have hDC:=@dC.eq_1
  go_enter func5,ntmps5
  go_wp2_with fail
  go_ret
  exact ⟨Ag HR.out.symm,HB.out⟩
 by_cases e1:x.d.players.length≤20
 rotate_left
 ·have q1:¬(x.d.players.length:Int)≤20:=by omega
  have q0:(x.d.exits.length:Int)≤20:=by omega
  have HR:=Lib.hid (show fewB x=false by simp [fewB,e1])
  clear e0 e1
  have hWC:=@wC.eq_1
  have hDC:=@dC.eq_1
  go_enter func5,ntmps5
  go_wp2_with fail
  go_ret
  exact ⟨Ag HR.out.symm,HB.out⟩
 by_cases e2:x.d.coins.length≤20
 rotate_left
 ·have q2:¬(x.d.coins.length:Int)≤20:=by omega
  have q0:(x.d.exits.length:Int)≤20:=by omega
  have q1:(x.d.players.length:Int)≤20:=by omega
  have HR:=Lib.hid (show fewB x=false by simp [fewB,e2])
  clear e0 e1 e2
  have hWC:=@wC.eq_1
  have hDC:=@dC.eq_1
  go_enter func5,ntmps5
  go_wp2_with fail
  go_ret
  exact ⟨Ag HR.out.symm,HB.out⟩
 by_cases e3:x.d.items.length≤40
 rotate_left
 ·have q3:¬(x.d.items.length:Int)≤40:=by omega
  have q0:(x.d.exits.length:Int)≤20:=by omega
  have q1:(x.d.players.length:Int)≤20:=by omega
  have q2:(x.d.coins.length:Int)≤20:=by omega
  have HR:=Lib.hid (show fewB x=false by simp [fewB,e3])
  clear e0 e1 e2 e3
  have hWC:=@wC.eq_1
  have hDC:=@dC.eq_1
  go_enter func5,ntmps5
  go_wp2_with fail
  go_ret
  exact ⟨Ag HR.out.symm,HB.out⟩
 by_cases e4:x.d.boxes.length≤40
 rotate_left
 ·have q4:¬(x.d.boxes.length:Int)≤40:=by omega
  have q0:(x.d.exits.length:Int)≤20:=by omega
  have q1:(x.d.players.length:Int)≤20:=by omega
  have q2:(x.d.coins.length:Int)≤20:=by omega
  have q3:(x.d.items.length:Int)≤40:=by omega
  have HR:=Lib.hid (show fewB x=false by simp [fewB,e4])
  clear e0 e1 e2 e3 e4
  have hWC:=@wC.eq_1
  have hDC:=@dC.eq_1
  go_enter func5,ntmps5
  go_wp2_with fail
  go_ret
  exact ⟨Ag HR.out.symm,HB.out⟩
 by_cases e5:x.at_.length≤40
 rotate_left
 ·have q5:¬(x.at_.length:Int)≤40:=by omega
  have q0:(x.d.exits.length:Int)≤20:=by omega
  have q1:(x.d.players.length:Int)≤20:=by omega
  have q2:(x.d.coins.length:Int)≤20:=by omega
  have q3:(x.d.items.length:Int)≤40:=by omega
  have q4:(x.d.boxes.length:Int)≤40:=by omega
  have HR:=Lib.hid (show fewB x=false by simp [fewB,e5])
  clear e0 e1 e2 e3 e4 e5
  have hWC:=@wC.eq_1
  have hDC:=@dC.eq_1
  go_enter func5,ntmps5
  go_wp2_with fail
  go_ret
  exact ⟨Ag HR.out.symm,HB.out⟩
 by_cases e6:x.coins.length≤40
 rotate_left
 ·have q6:¬(x.coins.length:Int)≤40:=by omega
  have q0:(x.d.exits.length:Int)≤20:=by omega
  have q1:(x.d.players.length:Int)≤20:=by omega
  have q2:(x.d.coins.length:Int)≤20:=by omega
  have q3:(x.d.items.length:Int)≤40:=by omega
  have q4:(x.d.boxes.length:Int)≤40:=by omega
  have q5:(x.at_.length:Int)≤40:=by omega
  have HR:=Lib.hid (show fewB x=false by simp [fewB,e6])
  clear e0 e1 e2 e3 e4 e5 e6
  have hWC:=@wC.eq_1
  have hDC:=@dC.eq_1
  go_enter func5,ntmps5
  go_wp2_with fail
  go_ret
  exact ⟨Ag HR.out.symm,HB.out⟩
 by_cases e7:x.wher.length≤40
 rotate_left
 ·have q7:¬(x.wher.length:Int)≤40:=by omega
  have q0:(x.d.exits.length:Int)≤20:=by omega
  have q1:(x.d.players.length:Int)≤20:=by omega
  have q2:(x.d.coins.length:Int)≤20:=by omega
  have q3:(x.d.items.length:Int)≤40:=by omega
  have q4:(x.d.boxes.length:Int)≤40:=by omega
  have q5:(x.at_.length:Int)≤40:=by omega
  have q6:(x.coins.length:Int)≤40:=by omega
  have HR:=Lib.hid (show fewB x=false by simp [fewB,e7])
  clear e0 e1 e2 e3 e4 e5 e6 e7
  have hWC:=@wC.eq_1
  have hDC:=@dC.eq_1
  go_enter func5,ntmps5
  go_wp2_with fail
  go_ret
  exact ⟨Ag HR.out.symm,HB.out⟩
 have q0:(x.d.exits.length:Int)≤20:=by omega
 have q1:(x.d.players.length:Int)≤20:=by omega
 have q2:(x.d.coins.length:Int)≤20:=by omega
 have q3:(x.d.items.length:Int)≤40:=by omega
 have q4:(x.d.boxes.length:Int)≤40:=by omega
 have q5:(x.at_.length:Int)≤40:=by omega
 have q6:(x.coins.length:Int)≤40:=by omega
 have q7:(x.wher.length:Int)≤40:=by omega
 have HR:=Lib.hid (show fewB x=true by simp [fewB,e0,e1,e2,e3,e4,e5,e6,e7])
 clear e0 e1 e2 e3 e4 e5 e6 e7
 have hWC:=@wC.eq_1
 have hDC:=@dC.eq_1
 go_enter func5,ntmps5
 go_wp2_with fail
 go_ret
 exact ⟨Ag HR.out.symm,HB.out⟩
theorem Ij (x:Wd) (p:Wp) (q:Nat) (i:Int) (hq:q<3) (w:World):Calls prog 23 #[.agg (wC x p),.agg #[.int .i64 q,.int .i64 i]] w fun e w'=>e=.returned (.int .i64 (Cb x.d q))∧Below w.heap.size w w':=by
 obtain rfl|rfl|rfl:q=0∨q=1∨q=2:=by omega
 all_goals
  have hWC:=@wC.eq_1
  have hDC:=@dC.eq_1
  go_enter func23,ntmps23
  go_wp2_with fail
  go_ret
  exact ⟨rfl,(((Below.refl w.heap.size w).alloc (Nat.le_refl _) _).alloc (by simp) _).alloc (by simp;omega) _⟩
theorem Ey (a1 a2 b1 b2:Int) (w:World):(binOp .eql 48 (.agg #[.int .i64 a1,.int .i64 a2]) (.agg #[.int .i64 b1,.int .i64 b2])).run prog w=.ok (.bool (decide ((⟨a1,a2⟩:Pl)=⟨b1,b2⟩))) w:=by
 by_cases e1:a1=b1
 ·by_cases e2:a2=b2
  ·subst e1 e2;go_simp
  ·go_simp
 ·go_simp
theorem Dl4 {ps:List Pl} {k:Nat} {p:Pl} (hk:k<ps.length) (h:ps[k]=p):(ps.take (k+1)).count p=(ps.take k).count p+1:=by
 rw [List.take_succ_eq_append_getElem hk,List.count_append,h];simp
theorem Es1 {ps:List Pl} {k:Nat} {p:Pl} (hk:k<ps.length) (h:¬ps[k]=p):(ps.take (k+1)).count p=(ps.take k).count p:=by
 rw [List.take_succ_eq_append_getElem hk,List.count_append,show [ps[k]].count p=0 from List.count_eq_zero.2 (by simpa using fun e=>h e.symm)];rfl
theorem Fg (x:Wd) (p:Wp) (y:Pl) (w:World) (h:Au w p.wh x.wher):Calls prog 22 #[.agg (wC x p),.agg #[.int .i64 y.kind,.int .i64 y.id]] w fun e w'=>e=.returned (.int .i64 (x.wher.count y:Nat))∧Below w.heap.size w w':=by
 have hm:=h.len
 have H:=Lib.hid h
 clear h
 obtain ⟨yk,yi⟩:=y
 have HP:=Lib.hid (Ac.pair w (wC x p) #[.int .i64 yk,.int .i64 yi] 29 48)
 have hWC:=@wC.eq_1
 have hDC:=@dC.eq_1
 go_enter func22,ntmps22
 go_wp2_with fail
 go_loopw [5,6] (fun n i wr=>∃k:Nat,k≤x.wher.length∧i=.int .i64 k∧n=.int .i64 ((x.wher.take k).count ⟨yk,yi⟩:Nat)∧Ac w w.heap.size (wC x p) wr∧Ac w (w.heap.size+1) #[.int .i64 yk,.int .i64 yi] wr) (fun _ i _=>x.wher.length-(intOf i).toNat)
 case atStart=>exact ⟨0,Nat.zero_le _,rfl,rfl,HP.out.1,HP.out.2⟩
 case round =>
  obtain ⟨k,hk,rfl,rfl,h1,h2⟩:=hrel
  have hc1:=h1.2.2
  have hc2:=h2.2.2
  have hl2:=h2.2.1
  have hcn:=List.count_le_length (a:=(⟨yk,yi⟩:Pl)) (l:=x.wher.take k)
  rw [List.length_take] at hcn
  by_cases hlt:k<x.wher.length
  ·obtain ⟨b,o,hbo,hb,c0,c1⟩:=Au.cells (Ar.below H.out h1.1 (Nat.le_refl _)) hlt
   have HY:=Lib.hid (Dl4 (p:=⟨yk,yi⟩) hlt)
   have HN:=Lib.hid (Es1 (p:=⟨yk,yi⟩) hlt)
   have H1:=Lib.hid h1
   have H2:=Lib.hid h2
   have HPP:=Lib.hid hbo
   clear H h1 h2
   generalize x.wher[k]=z at *
   obtain ⟨zk,zi⟩:=z
   simp only at c0 c1
   have hrun:=Ey zk zi yk yi
   by_cases he:(⟨zk,zi⟩:Pl)=⟨yk,yi⟩
   ·have HX:=Lib.hid (HY.out he)
    simp only [he,decide_true] at hrun
    clear he HY HN
    have hw:IntKind.i64.wrap ((((x.wher.take k).count ⟨yk,yi⟩:Nat):Int)+1)=(((x.wher.take k).count ⟨yk,yi⟩:Nat):Int)+1:=IntWalk.i64_in _ (by omega)
    generalize (x.wher.take k).count ⟨yk,yi⟩=cc at *
    go_wp2_with fail
    go_quiet (fail)
    go_wp2_with fail
    go_roundw
    case rel=>exact ⟨k+1,by omega,by go_num,by rw [HX.out];go_num,H1.out.drewN _,H2.out.drewN _⟩
    case measure=>simp [intOf];omega
   ·have HX:=Lib.hid (HN.out he)
    simp only [he,decide_false] at hrun
    clear he HY HN
    generalize (x.wher.take k).count ⟨yk,yi⟩=cc at *
    go_wp2_with fail
    go_quiet (fail)
    go_wp2_with fail
    go_roundw
    case rel=>exact ⟨k+1,by omega,by go_num,by rw [HX.out],H1.out.drewN _,H2.out.drewN _⟩
    case measure=>simp [intOf];omega
  ·have hke:k=x.wher.length:=by omega
   subst hke
   have H1:=Lib.hid h1
   clear H h1 h2
   rw [List.take_length]
   obtain ⟨cc,hcc⟩:∃c,x.wher.count ⟨yk,yi⟩=c:=⟨_,rfl⟩
   rw [hcc]
   have HC:=Lib.hid hcc
   clear hcc hcn
   go_wp2_with fail
   go_ret
   exact ⟨by rw [HC.out];rfl,H1.out.1⟩
end
section
theorem Bj1 {ps:List Pl} {m:Nat} {p z:Pl} (hm:m≤50) (h:dpt ps 50 p=(dpt ps (50-m) z).map (·+m)) (hz:¬z.kind=2):Ir ps p=m:=by
 have:dpt ps (50-m) z=some 0:=by generalize 50-m=j;cases j<;>simp [dpt,hz]
 unfold Ir;rw [h,this];simp
theorem Bj3 {ps:List Pl} {p z:Pl} (h:dpt ps 50 p=(dpt ps (50-50) z).map (·+50)) (hz:z.kind=2):Ir ps p=99:=by
 have e:dpt ps (50-50) z=none:=by rw [Nat.sub_self];simp [dpt,hz]
 unfold Ir;rw [h,e];rfl
theorem Bj2 {ps:List Pl} {m:Nat} {p z:Pl} (hm:m<50) (h:dpt ps 50 p=(dpt ps (50-m) z).map (·+m)) (hz:z.kind=2):dpt ps 50 p=(dpt ps (50-(m+1)) (par ps z)).map (·+(m+1)):=by
 obtain ⟨j,hj⟩:∃j,50-m=j+1:=⟨50-m-1,by omega⟩
 rw [h,hj,show 50-(m+1)=j by omega]
 simp only [dpt]
 rw [if_pos hz]
 cases dpt ps j (par ps z) with
 | none=>rfl
 | some q=>simp;omega
theorem Cu (x:Wd) (p:Wp) (y:Pl) (w:World) (h:Au w p.wh x.wher) (hid:Zh x.wher) (hy:y.kind=2→0≤y.id∧y.id<x.wher.length) :
 Calls prog 21 #[.agg (wC x p),.agg #[.int .i64 y.kind,.int .i64 y.id]] w fun e w'=>e=.returned (.int .i64 (Ir x.wher y:Nat))∧Below w.heap.size w w':=by
 have hm:=h.len
 have H:=Lib.hid h
 have HD:=Lib.hid hid
 clear h hid
 have HP:=Lib.hid (Ac.pair w (wC x p) #[.int .i64 y.kind,.int .i64 y.id] 29 48)
 have HB2:=Lib.hid (Blk.newn (w.alloc (.cells (wC x p) 29)) 48 #[.int .i64 y.kind,.int .i64 y.id] (n:=w.heap.size+1) (by simp))
 have hWC:=@wC.eq_1
 go_enter func21,ntmps21
 go_wp2_with fail
 go_loopw [5] (fun n wr=>∃(m:Nat) (z:Pl),m≤50∧n=.int .i64 m∧(z.kind=2→0≤z.id∧z.id<x.wher.length)∧dpt x.wher 50 y=(dpt x.wher (50-m) z).map (·+m)∧Ac w w.heap.size (wC x p) wr∧Blk wr (w.heap.size+1) 48 #[.int .i64 z.kind,.int .i64 z.id]) (fun n _=>51-(intOf n).toNat)
 case atStart=>exact ⟨0,y,by omega,rfl,hy,by simp,HP.out.1,HB2.out⟩
 case round =>
  obtain ⟨m,z,hm50,rfl,hz,hdp,h1,h2⟩:=hrel
  have hc1:=h1.2.2
  have hc2:=h2.cell
  have hf2:=h2.frozen
  have hl2:=h2.lt
  have HH:=Lib.hid h1
  have HB:=Lib.hid h2
  have HDP:=Lib.hid hdp
  clear h1 h2 hdp
  obtain ⟨zk,zi⟩:=z
  by_cases hk:zk=2
  ·subst hk
   by_cases h50:m<50
   ·obtain ⟨i0,i1⟩:=hz rfl
    obtain ⟨q,rfl⟩:∃q:Nat,zi=q:=⟨zi.toNat,by simp only at i0;omega⟩
    have hlt:q<x.wher.length:=by simp only at i1;omega
    have HS:=Lib.hid (Bj2 h50 HDP.out rfl)
    have HPM:=Lib.hid (Bo3 i0 i1)
    have HI:=Lib.hid (HD.out x.wher[q] (List.getElem_mem hlt))
    obtain ⟨b,o,hbo,hb,c0,c1⟩:=Au.cells (Ar.below H.out HH.out.1 (Nat.le_refl _)) hlt
    have HE:Hid (par x.wher ⟨2,q⟩=x.wher[q]):=Lib.hid (by rw [HPM.out];simp)
    clear H hz i0 i1 HPM
    generalize x.wher[q]=v at *
    have hw:IntKind.i64.wrap ((m:Int)+1)=(m:Int)+1:=IntWalk.i64_in _ (by omega)
    have hn50:¬(50:Int)<(m:Int)+1:=by omega
    go_wp2_with fail
    go_roundw
    case rel=>exact ⟨m+1,v,by omega,by go_num,HI.out,by rw [HS.out,HE.out],⟨(HH.out.1.setCell (by show w.heap.size≤w.heap.size+1;omega) _).setCell (by show w.heap.size≤w.heap.size+1;omega) _,by have:=HH.out.2.1;simp [World.setCell];omega,fun i=>((World.cell?_setCell_far _ _ _ _ (by simp)).trans (World.cell?_setCell_far _ _ _ _ (by simp))).trans (HH.out.2.2 i)⟩,(HB.out.set_ 0 _).set_ 1 _⟩
    case measure=>simp [intOf];omega
   ·obtain rfl:m=50:=by omega
    have HR:=Lib.hid (Bj3 HDP.out rfl)
    clear H hz
    go_wp2_with fail
    go_ret
    exact ⟨by rw [HR.out];rfl,HH.out.1⟩
  ·have hk2:(zk==2)=false:=by simpa using hk
   have HR:=Lib.hid (Bj1 hm50 HDP.out hk)
   clear hk H hz
   go_wp2_with fail
   go_ret
   exact ⟨by rw [HR.out];rfl,HH.out.1⟩
end
section
section
variable {α:Type} {k:Nat} {e:TypeId} {enc:α→List Value} {n:Nat} {W:World} {a:Option Addr} {xs:List α}
theorem OwnR.far (h:OwnR k e enc n W a xs) {b:Nat} (hn:∀q,a=some q→q.block≠b) (i:Nat) (u:Value):OwnR k e enc n (W.setCell ⟨b,i,none⟩ u) a xs:=by
 obtain ⟨hl,h⟩:=h
 refine ⟨hl,h.imp id ?_⟩
 rintro ⟨g,cs,rfl,h1,hB,hc⟩
 exact ⟨g,cs,rfl,h1,hB.far (hn _ rfl) u,hc⟩
theorem OwnR.from_ (h:OwnR k e enc n W a xs) {q:Addr} (hq:a=some q):n≤q.block:=by
 rcases h.2 with ⟨_,h⟩|⟨b,cs,h,hn,hb,_⟩
 ·rw [h] at hq;cases hq
 ·rw [h] at hq;cases hq;exact hn
theorem OwnR.put (h:OwnR k e enc n W a xs) {i:Nat} (hi:i<xs.length) {j:Nat} (hj:j<k):∃b,a=some ⟨b,0,none⟩∧n≤b∧b<W.heap.size∧(∀r,r<k→W.cell? ⟨b,i*k+r,none⟩=(enc xs[i])[r]?)∧(∀r,W.frozen? ⟨b,r,none⟩=false) ∧
 ∀(v:Value) (y:α),(enc xs[i]).length=k→(∀r,r<k→(enc y)[r]?=if r=j then some v else (enc xs[i])[r]?)→OwnR k e enc n (W.setCell ⟨b,i*k+j,none⟩ v) (some ⟨b,0,none⟩) (xs.set i y):=by
 obtain ⟨hl,h⟩:=h
 rcases h with ⟨rfl,_⟩|⟨b,cs,rfl,hn,hB,hc⟩
 ·simp at hi
 refine ⟨b,rfl,hn,hB.lt,fun r hr=>by rw [hB.cell];exact hc i hi r hr,fun r=>hB.frozen r,fun v y hlen hy=>⟨by simpa using hl,.inr ⟨b,cs.setIfInBounds (i*k+j) v,rfl,hn,hB.set_ _ _,fun i2 hi2 r hr=>?_⟩⟩⟩
 have hi3:i2<xs.length:=by simpa using hi2
 by_cases e1:i2=i
 ·subst e1
  rw [List.getElem_set_self,hy r hr]
  by_cases e2:r=j
  ·subst e2
   rw [if_pos rfl,Array.getElem?_setIfInBounds_self_of_lt]
   have h2:=hc i2 hi r hr
   rw [List.getElem?_eq_getElem (by omega)] at h2
   exact (Array.getElem?_eq_some_iff.1 h2).1
  ·rw [if_neg e2,Array.getElem?_setIfInBounds_ne (by omega)];exact hc i2 hi r hr
 ·rw [List.getElem_set_ne (fun h=>e1 h.symm),Array.getElem?_setIfInBounds_ne,hc i2 hi3 r hr]
  intro he
  rcases Nat.lt_or_gt_of_ne e1 with h1|h1
  ·have:(i2+1)*k≤i*k:=Nat.mul_le_mul h1 (Nat.le_refl _)
   rw [Nat.add_mul,Nat.one_mul] at this;omega
  ·have:(i+1)*k≤i2*k:=Nat.mul_le_mul h1 (Nat.le_refl _)
   rw [Nat.add_mul,Nat.one_mul] at this;omega
end
theorem Fz.far {n:Nat} {W:World} {p:Dp} {d:Ds} (h:Fz n W p d) {b:Nat} (hn:∀q,(p.ex=some q∨p.pl=some q∨p.co=some q∨p.it=some q∨p.bo=some q)→q.block≠b) (i:Nat) (u:Value):Fz n (W.setCell ⟨b,i,none⟩ u) p d :=
 ⟨h.ex.far (fun q hq=>hn q (.inl hq)) i u,h.pl.far (fun q hq=>hn q (.inr (.inl hq))) i u,h.co.far (fun q hq=>hn q (.inr (.inr (.inl hq)))) i u,h.it.far (fun q hq=>hn q (.inr (.inr (.inr (.inl hq))))) i u,h.bo.far (fun q hq=>hn q (.inr (.inr (.inr (.inr hq))))) i u⟩
theorem Ao.putAt {n:Nat} {W:World} {p:Wp} {x:Wd} (h:Ao n W p x) {k:Nat} (hk:k<x.at_.length):∃b,p.at_=some ⟨b,0,none⟩∧n≤b∧b<W.heap.size∧W.cell? ⟨b,k,none⟩=some (.int .i64 x.at_[k])∧W.frozen? ⟨b,k,none⟩=false ∧
 ∀v:Int,Ao n (W.setCell ⟨b,k,none⟩ (.int .i64 v)) p ⟨x.d,x.at_.set k v,x.coins,x.wher⟩:=by
 obtain ⟨m1,m2,m3,h1,h2,h3,h4,hd,hdm,ha,ham,hc,hcm,hw⟩:=h.ex
 obtain ⟨b,hb,hn,hl,hcell,hf,hput⟩:=ha.put hk (j:=0) (by omega)
 have hlt:=ham _ hb
 refine ⟨b,hb,by omega,hl,by simpa [inC] using hcell 0 (by omega),hf _,fun v=>⟨m1,m2,m3,h1,h2,h3,by simpa [World.setCell] using h4,hd.far (fun q hq=>by have:=hdm q hq;omega) _ _,hdm,?_,ham,hc.far (fun q hq=>by have h5:=hc.from_ hq;simp only at hlt;omega) _ _,hcm,hw.far (fun q hq=>by have h5:=hw.from_ hq;simp only at hlt;omega) _ _⟩⟩
 have:=hput (.int .i64 v) v rfl (fun r hr=>by obtain rfl:r=0:=by omega
                                              simp [inC])
 rw [hb]
 simpa using this
theorem Ao.putCo {n:Nat} {W:World} {p:Wp} {x:Wd} (h:Ao n W p x) {k:Nat} (hk:k<x.coins.length):∃b,p.co=some ⟨b,0,none⟩∧n≤b∧b<W.heap.size∧W.cell? ⟨b,k,none⟩=some (.int .i64 x.coins[k])∧W.frozen? ⟨b,k,none⟩=false ∧
 ∀v:Int,Ao n (W.setCell ⟨b,k,none⟩ (.int .i64 v)) p ⟨x.d,x.at_,x.coins.set k v,x.wher⟩:=by
 obtain ⟨m1,m2,m3,h1,h2,h3,h4,hd,hdm,ha,ham,hc,hcm,hw⟩:=h.ex
 obtain ⟨b,hb,hn,hl,hcell,hf,hput⟩:=hc.put hk (j:=0) (by omega)
 have hlt:=hcm _ hb
 refine ⟨b,hb,by omega,hl,by simpa [inC] using hcell 0 (by omega),hf _,fun v=>⟨m1,m2,m3,h1,h2,h3,by simpa [World.setCell] using h4,hd.far (fun q hq=>by have:=hdm q hq;omega) _ _,hdm,ha.far (fun q hq=>by have h5:=ham q hq;omega) _ _,ham,?_,hcm,hw.far (fun q hq=>by have h5:=hw.from_ hq;simp only at hlt;omega) _ _⟩⟩
 have:=hput (.int .i64 v) v rfl (fun r hr=>by obtain rfl:r=0:=by omega
                                              simp [inC])
 rw [hb]
 simpa using this
theorem Ao.putWh {n:Nat} {W:World} {p:Wp} {x:Wd} (h:Ao n W p x) {k:Nat} (hk:k<x.wher.length):∃b,p.wh=some ⟨b,0,none⟩∧n≤b∧b<W.heap.size∧W.cell? ⟨b,k*2,none⟩=some (.int .i64 x.wher[k].kind)∧W.cell? ⟨b,k*2+1,none⟩=some (.int .i64 x.wher[k].id)∧(∀r,W.frozen? ⟨b,r,none⟩=false) ∧
 (∀v:Int,Ao n (W.setCell ⟨b,k*2,none⟩ (.int .i64 v)) p ⟨x.d,x.at_,x.coins,x.wher.set k ⟨v,x.wher[k].id⟩⟩) ∧
 ∀v:Int,Ao n (W.setCell ⟨b,k*2+1,none⟩ (.int .i64 v)) p ⟨x.d,x.at_,x.coins,x.wher.set k ⟨x.wher[k].kind,v⟩⟩:=by
 obtain ⟨m1,m2,m3,h1,h2,h3,h4,hd,hdm,ha,ham,hc,hcm,hw⟩:=h.ex
 obtain ⟨b,hb,hn,hl,hcell,hf,hput⟩:=hw.put hk (j:=0) (by omega)
 obtain ⟨b',hb',_,_,_,_,hput'⟩:=hw.put hk (j:=1) (by omega)
 obtain rfl:b'=b:=by rw [hb] at hb';simpa using hb'.symm
 refine ⟨b',hb,by omega,hl,by simpa [plC] using hcell 0 (by omega),by simpa [plC] using hcell 1 (by omega),hf,fun v=>⟨m1,m2,m3,h1,h2,h3,by simpa [World.setCell] using h4,hd.far (fun q hq=>by have:=hdm q hq;omega) _ _,hdm,ha.far (fun q hq=>by have h5:=ham q hq;omega) _ _,ham,hc.far (fun q hq=>by have h5:=hcm q hq;omega) _ _,hcm,?_⟩,
  fun v=>⟨m1,m2,m3,h1,h2,h3,by simpa [World.setCell] using h4,hd.far (fun q hq=>by have:=hdm q hq;omega) _ _,hdm,ha.far (fun q hq=>by have h5:=ham q hq;omega) _ _,ham,hc.far (fun q hq=>by have h5:=hcm q hq;omega) _ _,hcm,?_⟩⟩
 ·have:=hput (.int .i64 v) ⟨v,x.wher[k].id⟩ rfl (fun r hr=>by
   obtain rfl|rfl:r=0∨r=1:=by omega
   ·rfl
   ·rfl)
  rw [hb]
  simpa using this
 ·have:=hput' (.int .i64 v) ⟨x.wher[k].kind,v⟩ rfl (fun r hr=>by
   obtain rfl|rfl:r=0∨r=1:=by omega
   ·rfl
   ·rfl)
  rw [hb]
  simpa using this
theorem Ac.far {w w':World} {n:Nat} {A:Array Value} (h:Ac w n A w') {b:Nat} (hw:w.heap.size≤b) (hn:n≠b) (i:Nat) (u:Value):Ac w n A (w'.setCell ⟨b,i,none⟩ u) :=
 ⟨h.1.setCell hw u,by have:=h.2.1;simpa [World.setCell] using this,fun j=>(World.cell?_setCell_far _ _ _ _ (by show b≠n;omega)).trans (h.2.2 j)⟩
theorem Ac.newb {w W:World} {n:Nat} {A:Array Value} {t:TypeId} (hb:Below w.heap.size w W) (hn:W.heap.size=n):Ac w n A (W.alloc (.cells A t)):=by
 subst hn
 exact ⟨hb.alloc hb.size _,by simp,fun i=>World.cell?_alloc_at _ _ _ _ rfl⟩
theorem Vu {x:Wd} (h:fewB x=true):FewW x:=by
 simp only [fewB,Bool.and_eq_true,decide_eq_true_eq] at h
 exact ⟨⟨by omega,by omega,by omega,by omega,by omega⟩,by omega,by omega,by omega⟩
theorem Ao.alloc' {n:Nat} {W:World} {p:Wp} {x:Wd} (h:Ao n W p x) (o:Obj):Ao n (W.alloc o) p x:=h.call (b_a _)
theorem Ao.putPlace {n:Nat} {W:World} {p:Wp} {x:Wd} (h:Ao n W p x) {k:Nat} (hk:k<x.wher.length):∃b,p.wh=some ⟨b,0,none⟩∧n≤b∧b<W.heap.size∧(W.cell? ⟨b,k*2,none⟩=some (.int .i64 x.wher[k].kind)∧W.cell? ⟨b,k*2+1,none⟩=some (.int .i64 x.wher[k].id))∧(∀r,W.frozen? ⟨b,r,none⟩=false) ∧
 ∀y:Pl,Ao n ((W.setCell ⟨b,k*2,none⟩ (.int .i64 y.kind)).setCell ⟨b,k*2+1,none⟩ (.int .i64 y.id)) p ⟨x.d,x.at_,x.coins,x.wher.set k y⟩:=by
 obtain ⟨b,hb,hn,hl,c0,c1,hf,pk,_⟩:=h.putWh hk
 refine ⟨b,hb,hn,hl,⟨c0,c1⟩,hf,fun y=>?_⟩
 have h2:=pk y.kind
 obtain ⟨b',hb',_,_,_,_,_,_,pi⟩:=h2.putWh (k:=k) (by simpa using hk)
 obtain rfl:b'=b:=by rw [hb] at hb';simpa using hb'.symm
 have h3:=pi y.id
 simpa using h3
end
end Go.Proofs.YtnhkojpbbdaedaaGreat
