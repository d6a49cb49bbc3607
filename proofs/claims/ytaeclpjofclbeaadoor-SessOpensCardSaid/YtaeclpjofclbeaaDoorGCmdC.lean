/- cmd: kinds, ways, numbers and lists within their limits; lists held against one another, by the code and by the document's own definition. -/
import Derived.Test.YtaeclpjofclbeaaDoorGCmdN
import Derived.RegionTactic
import Derived.BigRegion
import Derived.Test.YtaeclpjofclbeaaDoorTk
namespace Go.Proofs.YtaeclpjofclbeaaDoor
open Go.ChangeShapes Go.WideShapes Go.ChangeAt Go.RowKit Go.Proofs.Tryd
open Lib (hid)
set_option linter.unusedVariables false
set_option maxRecDepth 100000
section
theorem Hr (n:Int) (w:World):Calls prog 48 #[.int .i64 n] w fun e w'=>e=.returned (.bool (Co n))∧w=w':=by
 unfold Co
 by_cases h1:1≤n<;>by_cases h2:n≤10
 all_goals
  go_enter func48,ntmps48
  go_wp2_with fail
  go_ret
  exact ⟨by simp [*],rfl⟩
theorem Ut (n:Int) (w:World):Calls prog 60 #[.int .i64 n] w fun e w'=>e=.returned (.bool (Cq n))∧w=w':=by
 unfold Cq
 by_cases h1:0≤n<;>by_cases h2:n<4
 all_goals
  go_enter func60,ntmps60
  go_wp2_with fail
  go_ret
  exact ⟨by simp [*],rfl⟩
theorem Aa1 {xs:List Int} {k:Nat} (h:k<xs.length) (ha:areB (xs.take k)=true) (hk:okN xs[k]=true):areB (xs.take (k+1))=true:=by
 rw [List.take_succ_eq_append_getElem h]
 simp only [areB,List.all_append] at *
 simp [ha,hk]
theorem Ay9 {xs:List Int} {k:Nat} (h:k<xs.length) (hk:okN xs[k]=false):areB xs=false:=by
 rw [Bool.eq_false_iff];intro h2
 have:=List.all_eq_true.1 h2 xs[k] (List.getElem_mem h)
 rw [hk] at this;cases this
theorem Al2 {xs:List Int} (h:areB (xs.take xs.length)=true):areB xs=true:=by
 rwa [List.take_of_length_le lr0] at h
theorem Cu9 (a:Option Addr) (cap:Nat) (xs:List Int) (w:World) (h:Ae w a xs) :
 Calls prog 61 #[.slice a xs.length cap] w fun e w'=>e=.returned (.bool (areB xs))∧w=w':=by
 have hl:=h.len
 have H:=hid h
 clear h
 go_enter func61,ntmps61
 go_wp2_with fail
 go_loop [4,7] (fun _ i=>∃k:Nat,k≤xs.length∧i=.int .i64 k∧areB (xs.take k)=true) (fun _ i=>xs.length-(intOf i).toNat)
 case atStart=>exact ⟨0,Nat.zero_le _,rfl,rfl⟩
 case round =>
  obtain ⟨k,hk,rfl,ha⟩:=hrel
  have HA:=hid ha
  clear ha
  by_cases hlt:k<xs.length
  ·obtain ⟨b,off,rfl,hb,hc⟩:=H.at_ hlt
   have hcell:=hc k hlt
   clear hc
   have HS:=hid (Aa1 hlt HA.out)
   have HN:=hid (Ay9 hlt)
   by_cases h0:0≤xs[k]<;>by_cases h1:xs[k]≤1073741824
   ·have H2:=hid (HS.out (by simp [okN,h0,h1]))
    go_wp2_with fail
    go_round
    case rel=>exact ⟨k+1,by omega,by go_num,H2.out⟩
    case measure=>simp [intOf];omega
   all_goals
    have H2:=hid (HN.out (by simp [okN];omega))
    go_wp2_with fail
    go_ret
    exact ⟨Ag H2.symm,rfl⟩
  ·have hke:k=xs.length:=by omega
   subst hke
   have H2:=hid (Al2 HA.out)
   go_wp2_with fail
   go_ret
   exact ⟨Ag H2.symm,rfl⟩
theorem An2 (a:Option Addr) (cap:Nat) (xs:List Int) (w:World) (h:Ae w a xs) :
 Calls prog 62 #[.slice a xs.length cap] w fun e w'=>e=.returned (.bool (Uh xs))∧w=w':=by
 have hl:=h.len
 have H:=hid h
 clear h
 by_cases h1:xs.length≤16
 ·have HB:=hid (show Uh xs=areB xs by simp [Uh,h1])
  go_enter func62,ntmps62
  go_wp2_with fail
  refine (Cu9 a cap xs _ H.out).mono ?_
  rintro e w' ⟨rfl,rfl⟩
  go_wp2_with fail
  go_ret
  exact ⟨Ag HB.symm,rfl⟩
 ·have HB:=hid (show Uh xs=false by simp [Uh];omega)
  go_enter func62,ntmps62
  go_wp2_with fail
  go_ret
  exact ⟨Ag HB.symm,rfl⟩
end
section
theorem Ch6 (a b c d e:Int) (w:World):Ae (w.alloc (.cells #[.int .i64 a,.int .i64 b,.int .i64 c,.int .i64 d,.int .i64 e] 3)) (some ⟨w.heap.size,0,none⟩) [a,b,c,d,e]:=by
 refine ⟨by simp [maxLen],.inr ⟨w.heap.size,0,rfl,by simp,fun i hi=>?_⟩⟩
 rw [World.cell?_alloc_at _ _ _ _ rfl]
 match i,hi with
 | 0,_=>rfl
 | 1,_=>rfl
 | 2,_=>rfl
 | 3,_=>rfl
 | 4,_=>rfl
theorem Al1 (n:Nat) (a b c d e:Int) (w:World) (hn:n=w.heap.size):Calls prog 61 #[.slice (some ⟨n,0,none⟩) 5 5] (w.alloc (.cells #[.int .i64 a,.int .i64 b,.int .i64 c,.int .i64 d,.int .i64 e] 3)) fun e' w'=>e'=.returned (.bool (areB [a,b,c,d,e]))∧(w.alloc (.cells #[.int .i64 a,.int .i64 b,.int .i64 c,.int .i64 d,.int .i64 e] 3))=w':=by
 subst hn
 exact Cu9 (some ⟨w.heap.size,0,none⟩) 5 [a,b,c,d,e] _ (Ch6 a b c d e w)
theorem Rq (c:Cm) (ga wa:Option Addr) (gc wc:Nat) (w:World) (h1:Ae w ga c.gives) (h2:Ae w wa c.wants) :
 Calls prog 49 #[.agg (cC c ga gc wa wc)] w fun e w'=>e=.returned (.bool (Gn c))∧Below w.heap.size w w':=by
 have H1:=hid h1
 have H2:=hid h2
 clear h1 h2
 cases k1:Cq c.dir
 ·have K1:=hid k1
  have HB:=hid (show Gn c=false by simp [Gn,k1])
  clear k1
  have hCC:=@cC.eq_1
  go_enter func49,ntmps49
  go_wp2_with fail
  refine (Ut _ _).mono ?_
  rintro e w' ⟨rfl,rfl⟩
  rw [K1.out]
  go_wp2_with fail
  go_ret
  exact ⟨Ag HB.symm,b_a _⟩
 ·cases k2:areB [c.item,c.box,c.who,c.pay,c.fee]
  ·have K1:=hid k1
   have K2:=hid k2
   have HB:=hid (show Gn c=false by simp [Gn,k2])
   clear k1 k2
   have hCC:=@cC.eq_1
   go_enter func49,ntmps49
   go_wp2_with fail
   refine (Ut _ _).mono ?_
   rintro e w' ⟨rfl,rfl⟩
   rw [K1.out]
   go_wp2_with fail
   refine (Al1 _ _ _ _ _ _ _ (by simp)).mono ?_
   rintro e w' ⟨rfl,rfl⟩
   rw [K2.out]
   go_wp2_with fail
   go_ret
   exact ⟨Ag HB.symm,(b_a _).alloc (by simp) _⟩
  ·cases k3:Uh c.gives
   ·have K1:=hid k1
    have K2:=hid k2
    have K3:=hid k3
    have HB:=hid (show Gn c=false by simp [Gn,k3])
    clear k1 k2 k3
    have hCC:=@cC.eq_1
    go_enter func49,ntmps49
    go_wp2_with fail
    refine (Ut _ _).mono ?_
    rintro e w' ⟨rfl,rfl⟩
    rw [K1.out]
    go_wp2_with fail
    refine (Al1 _ _ _ _ _ _ _ (by simp)).mono ?_
    rintro e w' ⟨rfl,rfl⟩
    rw [K2.out]
    go_wp2_with fail
    refine (An2 _ _ _ _ ((H1.alloc _).alloc _)).mono ?_
    rintro e w' ⟨rfl,rfl⟩
    rw [K3.out]
    go_wp2_with fail
    go_ret
    exact ⟨Ag HB.symm,(b_a _).alloc (by simp) _⟩
   ·have K1:=hid k1
    have K2:=hid k2
    have K3:=hid k3
    have HB:=hid (show Gn c=Uh c.wants by simp [Gn,k1,k2,k3])
    clear k1 k2 k3
    have hCC:=@cC.eq_1
    go_enter func49,ntmps49
    go_wp2_with fail
    refine (Ut _ _).mono ?_
    rintro e w' ⟨rfl,rfl⟩
    rw [K1.out]
    go_wp2_with fail
    refine (Al1 _ _ _ _ _ _ _ (by simp)).mono ?_
    rintro e w' ⟨rfl,rfl⟩
    rw [K2.out]
    go_wp2_with fail
    refine (An2 _ _ _ _ ((H1.alloc _).alloc _)).mono ?_
    rintro e w' ⟨rfl,rfl⟩
    rw [K3.out]
    go_wp2_with fail
    refine (An2 _ _ _ _ ((H2.alloc _).alloc _)).mono ?_
    rintro e w' ⟨rfl,rfl⟩
    go_wp2_with fail
    go_ret
    exact ⟨Ag HB.symm,(b_a _).alloc (by simp) _⟩
end
section
def Dg8 (c:Cm) (w:World) (e:Ending) (w':World):Prop :=
 ∃ga gc wa wc,e=.returned (.agg (cC c ga gc wa wc))∧Ae w' ga c.gives∧Ae w' wa c.wants∧Below w.heap.size w w'
theorem Gr6 (d i b h p f:Int) (gs ws:List Int) (ga wa:Option Addr) (gc wc:Nat) (w:World) :
 Calls prog 50 #[.agg #[.int .i64 1,.int .i64 d,.int .i64 i,.int .i64 b,.int .i64 h,.slice ga gs.length gc,.int .i64 p,.slice wa ws.length wc,.int .i64 f]] w fun e w'=>e=.returned (.agg #[.int .i64 1,.int .i64 d,.int .i64 0,.int .i64 0,.int .i64 0,.slice none 0 0,.int .i64 0,.slice none 0 0,.int .i64 0])∧Below w.heap.size w w':=by
 have hCC:=@cC.eq_1
 go_enter func50,ntmps50
 go_wp2_with fail
 refine bodyPost_ret (v:=.agg #[.int .i64 1,.int .i64 d,.int .i64 0,.int .i64 0,.int .i64 0,.slice none 0 0,.int .i64 0,.slice none 0 0,.int .i64 0]) (by simp [results,results50,go_sem]) rfl ⟨rfl,?_⟩
 repeat (first|exact Below.refl _ _|refine Below.alloc ?_ (by first|(simp;done)|(simp;omega)) _)
theorem Gr5 (d i b h p f:Int) (gs ws:List Int) (ga wa:Option Addr) (gc wc:Nat) (w:World) :
 Calls prog 50 #[.agg #[.int .i64 2,.int .i64 d,.int .i64 i,.int .i64 b,.int .i64 h,.slice ga gs.length gc,.int .i64 p,.slice wa ws.length wc,.int .i64 f]] w fun e w'=>e=.returned (.agg #[.int .i64 2,.int .i64 d,.int .i64 0,.int .i64 0,.int .i64 h,.slice none 0 0,.int .i64 0,.slice none 0 0,.int .i64 0])∧Below w.heap.size w w':=by
 have hCC:=@cC.eq_1
 go_enter func50,ntmps50
 go_wp2_with fail
 go_region
 go_wp2_with fail
 refine bodyPost_ret (v:=.agg #[.int .i64 2,.int .i64 d,.int .i64 0,.int .i64 0,.int .i64 h,.slice none 0 0,.int .i64 0,.slice none 0 0,.int .i64 0]) (by simp [results,results50,go_sem]) rfl ⟨rfl,?_⟩
 repeat (first|exact Below.refl _ _|refine Below.drew ?_|refine Below.alloc ?_ (by first|(simp;done)|(simp;omega)) _)
theorem Gr4 (d i b h p f:Int) (gs ws:List Int) (ga wa:Option Addr) (gc wc:Nat) (w:World) :
 Calls prog 50 #[.agg #[.int .i64 3,.int .i64 d,.int .i64 i,.int .i64 b,.int .i64 h,.slice ga gs.length gc,.int .i64 p,.slice wa ws.length wc,.int .i64 f]] w fun e w'=>e=.returned (.agg #[.int .i64 3,.int .i64 0,.int .i64 i,.int .i64 0,.int .i64 0,.slice none 0 0,.int .i64 0,.slice none 0 0,.int .i64 0])∧Below w.heap.size w w':=by
 have hCC:=@cC.eq_1
 go_enter func50,ntmps50
 go_wp2_with fail
 refine bodyPost_ret (v:=.agg #[.int .i64 3,.int .i64 0,.int .i64 i,.int .i64 0,.int .i64 0,.slice none 0 0,.int .i64 0,.slice none 0 0,.int .i64 0]) (by simp [results,results50,go_sem]) rfl ⟨rfl,?_⟩
 repeat (first|exact Below.refl _ _|refine Below.alloc ?_ (by first|(simp;done)|(simp;omega)) _)
theorem Gr3 (d i b h p f:Int) (gs ws:List Int) (ga wa:Option Addr) (gc wc:Nat) (w:World) :
 Calls prog 50 #[.agg #[.int .i64 4,.int .i64 d,.int .i64 i,.int .i64 b,.int .i64 h,.slice ga gs.length gc,.int .i64 p,.slice wa ws.length wc,.int .i64 f]] w fun e w'=>e=.returned (.agg #[.int .i64 4,.int .i64 0,.int .i64 i,.int .i64 0,.int .i64 0,.slice none 0 0,.int .i64 0,.slice none 0 0,.int .i64 0])∧Below w.heap.size w w':=by
 have hCC:=@cC.eq_1
 go_enter func50,ntmps50
 go_wp2_with fail
 refine bodyPost_ret (v:=.agg #[.int .i64 4,.int .i64 0,.int .i64 i,.int .i64 0,.int .i64 0,.slice none 0 0,.int .i64 0,.slice none 0 0,.int .i64 0]) (by simp [results,results50,go_sem]) rfl ⟨rfl,?_⟩
 repeat (first|exact Below.refl _ _|refine Below.alloc ?_ (by first|(simp;done)|(simp;omega)) _)
theorem Gr2 (d i b h p f:Int) (gs ws:List Int) (ga wa:Option Addr) (gc wc:Nat) (w:World) :
 Calls prog 50 #[.agg #[.int .i64 5,.int .i64 d,.int .i64 i,.int .i64 b,.int .i64 h,.slice ga gs.length gc,.int .i64 p,.slice wa ws.length wc,.int .i64 f]] w fun e w'=>e=.returned (.agg #[.int .i64 5,.int .i64 0,.int .i64 i,.int .i64 b,.int .i64 0,.slice none 0 0,.int .i64 0,.slice none 0 0,.int .i64 0])∧Below w.heap.size w w':=by
 have hCC:=@cC.eq_1
 go_enter func50,ntmps50
 go_wp2_with fail
 go_region
 go_wp2_with fail
 refine bodyPost_ret (v:=.agg #[.int .i64 5,.int .i64 0,.int .i64 i,.int .i64 b,.int .i64 0,.slice none 0 0,.int .i64 0,.slice none 0 0,.int .i64 0]) (by simp [results,results50,go_sem]) rfl ⟨rfl,?_⟩
 repeat (first|exact Below.refl _ _|refine Below.drew ?_|refine Below.alloc ?_ (by first|(simp;done)|(simp;omega)) _)
theorem Gr1 (d i b h p f:Int) (gs ws:List Int) (ga wa:Option Addr) (gc wc:Nat) (w:World) :
 Calls prog 50 #[.agg #[.int .i64 6,.int .i64 d,.int .i64 i,.int .i64 b,.int .i64 h,.slice ga gs.length gc,.int .i64 p,.slice wa ws.length wc,.int .i64 f]] w fun e w'=>e=.returned (.agg #[.int .i64 6,.int .i64 0,.int .i64 i,.int .i64 b,.int .i64 0,.slice none 0 0,.int .i64 0,.slice none 0 0,.int .i64 0])∧Below w.heap.size w w':=by
 have hCC:=@cC.eq_1
 go_enter func50,ntmps50
 go_wp2_with fail
 go_region
 go_wp2_with fail
 refine bodyPost_ret (v:=.agg #[.int .i64 6,.int .i64 0,.int .i64 i,.int .i64 b,.int .i64 0,.slice none 0 0,.int .i64 0,.slice none 0 0,.int .i64 0]) (by simp [results,results50,go_sem]) rfl ⟨rfl,?_⟩
 repeat (first|exact Below.refl _ _|refine Below.drew ?_|refine Below.alloc ?_ (by first|(simp;done)|(simp;omega)) _)
theorem Gr0 (d i b h p f:Int) (gs ws:List Int) (ga wa:Option Addr) (gc wc:Nat) (w:World) :
 Calls prog 50 #[.agg #[.int .i64 7,.int .i64 d,.int .i64 i,.int .i64 b,.int .i64 h,.slice ga gs.length gc,.int .i64 p,.slice wa ws.length wc,.int .i64 f]] w fun e w'=>e=.returned (.agg #[.int .i64 7,.int .i64 0,.int .i64 i,.int .i64 0,.int .i64 h,.slice none 0 0,.int .i64 0,.slice none 0 0,.int .i64 0])∧Below w.heap.size w w':=by
 have hCC:=@cC.eq_1
 go_enter func50,ntmps50
 go_wp2_with fail
 go_region
 go_wp2_with fail
 refine bodyPost_ret (v:=.agg #[.int .i64 7,.int .i64 0,.int .i64 i,.int .i64 0,.int .i64 h,.slice none 0 0,.int .i64 0,.slice none 0 0,.int .i64 0]) (by simp [results,results50,go_sem]) rfl ⟨rfl,?_⟩
 repeat (first|exact Below.refl _ _|refine Below.drew ?_|refine Below.alloc ?_ (by first|(simp;done)|(simp;omega)) _)
theorem Gq9 (d i b h p f:Int) (gs ws:List Int) (ga wa:Option Addr) (gc wc:Nat) (w:World) :
 Calls prog 50 #[.agg #[.int .i64 8,.int .i64 d,.int .i64 i,.int .i64 b,.int .i64 h,.slice ga gs.length gc,.int .i64 p,.slice wa ws.length wc,.int .i64 f]] w fun e w'=>e=.returned (.agg #[.int .i64 8,.int .i64 0,.int .i64 0,.int .i64 0,.int .i64 h,.slice ga gs.length gc,.int .i64 p,.slice wa ws.length wc,.int .i64 f])∧Below w.heap.size w w':=by
 have hCC:=@cC.eq_1
 go_enter func50,ntmps50
 go_wp2_with fail
 go_region
 go_wp2_with fail
 go_region
 go_wp2_with fail
 refine bodyPost_ret (v:=.agg #[.int .i64 8,.int .i64 0,.int .i64 0,.int .i64 0,.int .i64 h,.slice ga gs.length gc,.int .i64 p,.slice wa ws.length wc,.int .i64 f]) (by simp [results,results50,go_sem]) rfl ⟨rfl,?_⟩
 repeat (first|exact Below.refl _ _|refine Below.drew ?_|refine Below.alloc ?_ (by first|(simp;done)|(simp;omega)) _)
theorem Gq8 (d i b h p f:Int) (gs ws:List Int) (ga wa:Option Addr) (gc wc:Nat) (w:World) :
 Calls prog 50 #[.agg #[.int .i64 9,.int .i64 d,.int .i64 i,.int .i64 b,.int .i64 h,.slice ga gs.length gc,.int .i64 p,.slice wa ws.length wc,.int .i64 f]] w fun e w'=>e=.returned (.agg #[.int .i64 9,.int .i64 0,.int .i64 0,.int .i64 0,.int .i64 0,.slice none 0 0,.int .i64 0,.slice none 0 0,.int .i64 0])∧Below w.heap.size w w':=by
 have hCC:=@cC.eq_1
 go_enter func50,ntmps50
 go_wp2_with fail
 refine bodyPost_ret (v:=.agg #[.int .i64 9,.int .i64 0,.int .i64 0,.int .i64 0,.int .i64 0,.slice none 0 0,.int .i64 0,.slice none 0 0,.int .i64 0]) (by simp [results,results50,go_sem]) rfl ⟨rfl,?_⟩
 repeat (first|exact Below.refl _ _|refine Below.alloc ?_ (by first|(simp;done)|(simp;omega)) _)
theorem Fh5 (d i b h p f:Int) (gs ws:List Int) (ga wa:Option Addr) (gc wc:Nat) (w:World) :
 Calls prog 50 #[.agg #[.int .i64 10,.int .i64 d,.int .i64 i,.int .i64 b,.int .i64 h,.slice ga gs.length gc,.int .i64 p,.slice wa ws.length wc,.int .i64 f]] w fun e w'=>e=.returned (.agg #[.int .i64 10,.int .i64 0,.int .i64 0,.int .i64 0,.int .i64 0,.slice none 0 0,.int .i64 0,.slice none 0 0,.int .i64 0])∧Below w.heap.size w w':=by
 have hCC:=@cC.eq_1
 go_enter func50,ntmps50
 go_wp2_with fail
 refine bodyPost_ret (v:=.agg #[.int .i64 10,.int .i64 0,.int .i64 0,.int .i64 0,.int .i64 0,.slice none 0 0,.int .i64 0,.slice none 0 0,.int .i64 0]) (by simp [results,results50,go_sem]) rfl ⟨rfl,?_⟩
 repeat (first|exact Below.refl _ _|refine Below.alloc ?_ (by first|(simp;done)|(simp;omega)) _)
end
section
theorem Iu (c:Cm) (ga wa:Option Addr) (gc wc:Nat) (w:World) :
 Calls prog 34 #[.agg (cC c ga gc wa wc)] w fun e w'=>e=.returned (.agg #[.int .i64 c.kind,.int .i64 c.dir,.int .i64 c.item,.int .i64 c.box,.int .i64 c.who,.int .i64 c.pay,.int .i64 c.fee])∧Below w.heap.size w w':=by
 have hCC:=@cC.eq_1
 go_enter func34,ntmps34
 go_wp2_with fail
 exact bodyPost_ret (v:=.agg #[.int .i64 c.kind,.int .i64 c.dir,.int .i64 c.item,.int .i64 c.box,.int .i64 c.who,.int .i64 c.pay,.int .i64 c.fee]) (by simp [results,results34,go_sem]) rfl ⟨rfl,(b_a _).alloc (by simp) _⟩
theorem Be3 (a b:Cm) (w:World):(binOp .eql 69 (.agg #[.int .i64 a.kind,.int .i64 a.dir,.int .i64 a.item,.int .i64 a.box,.int .i64 a.who,.int .i64 a.pay,.int .i64 a.fee]) (.agg #[.int .i64 b.kind,.int .i64 b.dir,.int .i64 b.item,.int .i64 b.box,.int .i64 b.who,.int .i64 b.pay,.int .i64 b.fee])).run prog w=.ok (.bool (Qe a b)) w:=by
 obtain ⟨a1,a2,a3,a4,a5,a6,a7,a8,a9⟩:=a
 obtain ⟨b1,b2,b3,b4,b5,b6,b7,b8,b9⟩:=b
 simp only [Qe]
 by_cases e1:a1=b1
 ·by_cases e2:a2=b2
  ·by_cases e3:a3=b3
   ·by_cases e4:a4=b4
    ·by_cases e5:a5=b5
     ·by_cases e7:a7=b7
      ·by_cases e9:a9=b9
       ·subst e1 e2 e3 e4 e5 e7 e9;rw [run_eql_struct];go_simp
       ·rw [run_eql_struct];go_simp
      ·rw [run_eql_struct];go_simp
     ·rw [run_eql_struct];go_simp
    ·rw [run_eql_struct];go_simp
   ·rw [run_eql_struct];go_simp
  ·rw [run_eql_struct];go_simp
 ·rw [run_eql_struct];go_simp
theorem Df2 (a b:Cm) (ga wa gb wb:Option Addr) (gca wca gcb wcb:Nat) (w:World) (hn:Qe a b=false) :
 Calls prog 19 #[.agg (cC a ga gca wa wca),.agg (cC b gb gcb wb wcb)] w fun e w'=>e=.returned (.bool (Gg a b))∧Below w.heap.size w w':=by
 have HS:=hid (show Gg a b=false by simp [Gg,hn])
 have hrun:=Be3 a b
 rw [hn] at hrun
 clear hn
 have hCC:=@cC.eq_1
 go_enter func19,ntmps19
 go_wp2_with fail
 refine tkS (S:=(fun w'=>(Below w.heap.size w w'∧w.heap.size<w'.heap.size∧∀i,w'.cell? ⟨w.heap.size,i,none⟩=((cC a ga gca wa wca)[i]?:Option Value))∧(Below w.heap.size w w'∧w.heap.size+1<w'.heap.size∧∀i,w'.cell? ⟨w.heap.size+1,i,none⟩=((cC b gb gcb wb wcb)[i]?:Option Value)))) (by (first|(exact Ac.two _ _ _ _ _)|(exact Ac.call2 (by assumption) hb))) (fun hHeld=>?_)
 refine tkl [0,2,1,3,4,5,6,7,8,9,10,11,12,13,14,15,16,17,18,19] ?_
 iterate 20
  first
   | refine tW ?_|refine tN ?_
   | (refine rT (fun K hK=>?_)
      go_simp
      first
       | (go_at_call 34;refine (Iu _ _ _ _ _ _).mono ?_;rintro e w1 ⟨rfl,hb⟩)
      try go_wp2_with fail
      refine hK.out _ _ (by (exact Ac.call2 (by assumption) hb)) (fun hHeld=>?_)
      clear hK K)
  try go_frame
 refine tkD ?_
 have hB:=hid (show Below w.heap.size w _ from (by assumption:Ac _ _ _ _∧_).1.1)
 go_wp2_with fail
 go_ret
 exact ⟨Ag HS.symm,hB.out⟩
theorem Ci9 (v:Bool) (a b:Cm) (ga wa gb wb:Option Addr) (gca wca gcb wcb:Nat) (w:World) (hn:Qe a b=true) (hg:decide (a.gives=b.gives)=v) (h1:Ae w ga a.gives) (h2:Ae w wa a.wants) (h3:Ae w gb b.gives) (h4:Ae w wb b.wants) :
 Calls prog 19 #[.agg (cC a ga gca wa wca),.agg (cC b gb gcb wb wcb)] w fun e w'=>e=.returned (.bool (Gg a b))∧Below w.heap.size w w':=by
 have HS:=hid (show Gg a b=(v&&decide (a.wants=b.wants)) by simp [Gg,hn,←hg])
 have hrun:=Be3 a b
 rw [hn] at hrun
 have HG:=hid hg
 have H1:=hid h1
 have H2:=hid h2
 have H3:=hid h3
 have H4:=hid h4
 clear hn hg h1 h2 h3 h4
 cases v
 all_goals
  have hCC:=@cC.eq_1
  go_enter func19,ntmps19
  go_wp2_with fail
  refine tkS (S:=(fun w'=>(Below w.heap.size w w'∧w.heap.size<w'.heap.size∧∀i,w'.cell? ⟨w.heap.size,i,none⟩=((cC a ga gca wa wca)[i]?:Option Value))∧(Below w.heap.size w w'∧w.heap.size+1<w'.heap.size∧∀i,w'.cell? ⟨w.heap.size+1,i,none⟩=((cC b gb gcb wb wcb)[i]?:Option Value)))) (by (first|(exact Ac.two _ _ _ _ _)|(exact Ac.call2 (by assumption) hb))) (fun hHeld=>?_)
  refine tkl [0,2,1,3,4,5,6,7,8,9,10,11,12,13,14,15,16,17,18,19] ?_
  iterate 20
   first
    | refine tW ?_|refine tN ?_
    | (refine rT (fun K hK=>?_)
       go_simp
       first
        | (go_at_call 34;refine (Iu _ _ _ _ _ _).mono ?_;rintro e w1 ⟨rfl,hb⟩)
        | (go_at_call 35;with_reducible refine (Dm _ _ _ _ _ _ _ (H1.out.below hHeld.1.1 lr0) (H3.out.below hHeld.1.1 lr0)).mono ?_;rintro e w1 ⟨rfl,hb⟩;rw [HG.out])
        | (go_at_call 35;with_reducible refine (Dm _ _ _ _ _ _ _ (H2.out.below hHeld.1.1 lr0) (H4.out.below hHeld.1.1 lr0)).mono ?_;rintro e w1 ⟨rfl,hb⟩)
       try go_wp2_with fail
       refine hK.out _ _ (by (exact Ac.call2 (by assumption) hb)) (fun hHeld=>?_)
       clear hK K)
   try go_frame
  refine tkD ?_
  have hB:=hid (show Below w.heap.size w _ from (by assumption:Ac _ _ _ _∧_).1.1)
  go_wp2_with fail
  go_ret
  exact ⟨Ag HS.symm,hB.out⟩
theorem Dq (a b:Cm) (ga wa gb wb:Option Addr) (gca wca gcb wcb:Nat) (w:World) (h1:Ae w ga a.gives) (h2:Ae w wa a.wants) (h3:Ae w gb b.gives) (h4:Ae w wb b.wants) :
 Calls prog 19 #[.agg (cC a ga gca wa wca),.agg (cC b gb gcb wb wcb)] w fun e w'=>e=.returned (.bool (Gg a b))∧Below w.heap.size w w':=by
 cases hn:Qe a b
 ·exact Df2 a b ga wa gb wb gca wca gcb wcb w hn
 ·exact Ci9 _ a b ga wa gb wb gca wca gcb wcb w hn rfl h1 h2 h3 h4
end
section
theorem Ad7 (c:Cm) (ga wa:Option Addr) (gc wc:Nat) (w:World) (hk:Co c.kind=true) (h1:Ae w ga c.gives) (h2:Ae w wa c.wants) :
 Calls prog 50 #[.agg (cC c ga gc wa wc)] w (Dg8 (ownC c) w):=by
 obtain ⟨k,d,i,b,h,gs,p,ws,f⟩:=c
 simp only at hk h1 h2 ⊢
 rcases Pj hk with rfl|rfl|rfl|rfl|rfl|rfl|rfl|rfl|rfl|rfl
 case inr.inr.inr.inr.inr.inr.inr.inl =>
  refine (Gq9 d i b h p f gs ws ga wa gc wc w).mono ?_
  rintro e w1 ⟨rfl,hb⟩
  exact ⟨ga,gc,wa,wc,by simp [ownC,keep,Nf],by simpa [ownC,Nf] using h1.below hb lr0,by simpa [ownC,Nf] using h2.below hb lr0,hb⟩
 case inl=>exact (Gr6 d i b h p f gs ws ga wa gc wc w).mono fun e w1 ⟨he,hb⟩=>⟨none,0,none,0,by rw [he];simp [ownC,keep,Nf],Ae.nil _ _,Ae.nil _ _,hb⟩
 case inr.inl=>exact (Gr5 d i b h p f gs ws ga wa gc wc w).mono fun e w1 ⟨he,hb⟩=>⟨none,0,none,0,by rw [he];simp [ownC,keep,Nf],Ae.nil _ _,Ae.nil _ _,hb⟩
 case inr.inr.inl=>exact (Gr4 d i b h p f gs ws ga wa gc wc w).mono fun e w1 ⟨he,hb⟩=>⟨none,0,none,0,by rw [he];simp [ownC,keep,Nf],Ae.nil _ _,Ae.nil _ _,hb⟩
 case inr.inr.inr.inl=>exact (Gr3 d i b h p f gs ws ga wa gc wc w).mono fun e w1 ⟨he,hb⟩=>⟨none,0,none,0,by rw [he];simp [ownC,keep,Nf],Ae.nil _ _,Ae.nil _ _,hb⟩
 case inr.inr.inr.inr.inl=>exact (Gr2 d i b h p f gs ws ga wa gc wc w).mono fun e w1 ⟨he,hb⟩=>⟨none,0,none,0,by rw [he];simp [ownC,keep,Nf],Ae.nil _ _,Ae.nil _ _,hb⟩
 case inr.inr.inr.inr.inr.inl=>exact (Gr1 d i b h p f gs ws ga wa gc wc w).mono fun e w1 ⟨he,hb⟩=>⟨none,0,none,0,by rw [he];simp [ownC,keep,Nf],Ae.nil _ _,Ae.nil _ _,hb⟩
 case inr.inr.inr.inr.inr.inr.inl=>exact (Gr0 d i b h p f gs ws ga wa gc wc w).mono fun e w1 ⟨he,hb⟩=>⟨none,0,none,0,by rw [he];simp [ownC,keep,Nf],Ae.nil _ _,Ae.nil _ _,hb⟩
 case inr.inr.inr.inr.inr.inr.inr.inr.inl=>exact (Gq8 d i b h p f gs ws ga wa gc wc w).mono fun e w1 ⟨he,hb⟩=>⟨none,0,none,0,by rw [he];simp [ownC,keep,Nf],Ae.nil _ _,Ae.nil _ _,hb⟩
 case inr.inr.inr.inr.inr.inr.inr.inr.inr=>exact (Fh5 d i b h p f gs ws ga wa gc wc w).mono fun e w1 ⟨he,hb⟩=>⟨none,0,none,0,by rw [he];simp [ownC,keep,Nf],Ae.nil _ _,Ae.nil _ _,hb⟩
theorem Fh9 (c:Cm) (ga wa:Option Addr) (gc wc:Nat) (w:World) (hk:Co c.kind=false) :
 Calls prog 43 #[.agg (cC c ga gc wa wc)] w fun e w'=>e=.returned (.bool (mayB c))∧Below w.heap.size w w':=by
 have HS:=hid (show mayB c=false by simp [mayB,hk])
 have HK:=hid hk
 clear hk
 have hCC:=@cC.eq_1
 go_enter func43,ntmps43
 go_wp2_with fail
 refine tkS (S:=(fun w'=>Below w.heap.size w w'∧w.heap.size<w'.heap.size∧∀i,w'.cell? ⟨w.heap.size,i,none⟩=((cC c ga gc wa wc)[i]?:Option Value))) (by (first|(exact (Ac.new _ _ _).drew)|(exact hHeld))) (fun hHeld=>?_)
 refine tkl [0,1,2,3,4,5,6,7,8,9,10,11,12,13] ?_
 iterate 14
  first
   | refine tW ?_|refine tN ?_
   | (refine rT (fun K hK=>?_)
      go_simp
      first
       | (go_at_call 48;refine (Hr _ _).mono ?_;rintro e w1 ⟨rfl,rfl⟩;rw [HK.out])
      try go_wp2_with fail
      refine hK.out _ _ (by (exact (Ac.new _ _ _).drew)) (fun hHeld=>?_)
      clear hK K)
  try go_frame
 refine tkD ?_
 have hB:=hid (show Below w.heap.size w _ from (by assumption:Ac _ _ _ _).1)
 go_wp2_with fail
 go_ret
 exact ⟨Ag HS.symm,hB.out⟩
theorem Br3 (v:Bool) (c:Cm) (ga wa:Option Addr) (gc wc:Nat) (w:World) (hk:Co c.kind=true) (hv:Gn c=v) (h1:Ae w ga c.gives) (h2:Ae w wa c.wants) :
 Calls prog 43 #[.agg (cC c ga gc wa wc)] w fun e w'=>e=.returned (.bool (mayB c))∧Below w.heap.size w w':=by
 have HS:=hid (show mayB c=(v&&Gg c (ownC c)) by simp [mayB,hk,hv])
 have HK:=hid hk
 have HV:=hid hv
 have H1:=hid h1
 have H2:=hid h2
 clear hk hv h1 h2
 cases v
 all_goals
  have hCC:=@cC.eq_1
  go_enter func43,ntmps43
  go_wp2_with fail
  refine tkS (S:=(fun w'=>Below w.heap.size w w'∧w.heap.size<w'.heap.size∧∀i,w'.cell? ⟨w.heap.size,i,none⟩=((cC c ga gc wa wc)[i]?:Option Value))) (by (first|(exact (Ac.new _ _ _).drew)|(exact Ac.call hHeld hb)|(exact hHeld))) (fun hHeld=>?_)
  refine tkl [0,1,2,3,4,5,6,7,8,9,10,11,12,13] ?_
  iterate 14
   first
    | refine tW ?_|refine tN ?_
    | (refine rT (fun K hK=>?_)
       go_simp
       first
        | (go_at_call 48;refine (Hr _ _).mono ?_;rintro e w1 ⟨rfl,rfl⟩;rw [HK.out])
        | (go_at_call 49;refine (Rq _ _ _ _ _ _ (H1.below hHeld.1 lr0) (H2.below hHeld.1 lr0)).mono ?_;rintro e w1 ⟨rfl,hb⟩;rw [HV.out])
        | (go_at_call 50;refine (Ad7 _ _ _ _ _ _ HK.out (H1.below hHeld.1 lr0) (H2.below hHeld.1 lr0)).mono ?_;rintro e w1 ⟨g2,gc2,u2,uc2,rfl,hg2,hu2,hb⟩)
        | (go_at_call 19;refine (Dq _ _ _ _ _ _ _ _ _ _ _ (H1.below hHeld.1 lr0) (H2.below hHeld.1 lr0) hg2 hu2).mono ?_;rintro e w1 ⟨rfl,hb⟩)
       try go_wp2_with fail
       refine hK.out _ _ (by (first|(exact (Ac.new _ _ _).drew)|(exact Ac.call hHeld hb))) (fun hHeld=>?_)
       clear hK K)
   try go_frame
  refine tkD ?_
  have hB:=hid (show Below w.heap.size w _ from (by assumption:Ac _ _ _ _).1)
  go_wp2_with fail
  go_ret
  exact ⟨Ag HS.symm,hB.out⟩
theorem Ha (c:Cm) (ga wa:Option Addr) (gc wc:Nat) (w:World) (h1:Ae w ga c.gives) (h2:Ae w wa c.wants) :
 Calls prog 43 #[.agg (cC c ga gc wa wc)] w fun e w'=>e=.returned (.bool (mayB c))∧Below w.heap.size w w':=by
 cases hk:Co c.kind
 ·exact Fh9 c ga wa gc wc w hk
 ·exact Br3 _ c ga wa gc wc w hk rfl h1 h2
end
end Go.Proofs.YtaeclpjofclbeaaDoor
