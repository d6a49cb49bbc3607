/- cmd: kinds, ways, numbers and lists within their limits; lists held against one another, by the code and by the document's own definition. -/
import Derived.Test.YtenpcndoilcjcaaGCmdN
import Derived.RegionTactic
import Derived.BigRegion
import Derived.Test.YtenpcndoilcjcaaTk
namespace Go.Proofs.Ytenpcndoilcjcaa
open Go.ChangeShapes Go.WideShapes Go.ChangeAt Go.RowKit Go.Proofs.Try
open Lib (hid)
set_option linter.unusedVariables false
section
theorem Hg (n:Int) (b:Bool) (w:World):Calls prog 19 #[.int .i64 n,.bool b] w fun e w'=>e=.returned (.bool (Cf n b))∧w=w':=by
 cases b
 ·
  go_enter func19,ntmps19
  go_wp2_with fail
  go_ret
  exact ⟨rfl,rfl⟩
 ·by_cases h1:0≤n<;>by_cases h2:n≤1073741824
  all_goals
   have HB:=hid (show Cf n true=okN n from rfl)
   go_enter func19,ntmps19
   go_wp2_with fail
   go_ret
   exact ⟨Ag (by rw [HB.out];simp [okN, *]),rfl⟩
theorem Aa1 {xs:List Int} {k:Nat} (h:k<xs.length) (ha:areB (xs.take k)=true) (hk:okN xs[k]=true):areB (xs.take (k+1))=true:=by
 rw [List.take_succ_eq_append_getElem h]
 simp only [areB,List.all_append] at *
 simp [ha,hk]
theorem Ay9 {xs:List Int} {k:Nat} (h:k<xs.length) (hk:okN xs[k]=false):areB xs=false:=by
 rw [Bool.eq_false_iff];intro h2
 have:=List.all_eq_true.1 h2 xs[k] (List.getElem_mem h)
 rw [hk] at this;cases this
theorem Al2 {xs:List Int} (h:areB (xs.take xs.length)=true):areB xs=true:=by
 rwa [List.take_of_length_le (Nat.le_refl _)] at h
theorem Eb (a:Option Addr) (cap:Nat) (xs:List Int) (b:Bool) (w:World) (h:Ae w a xs) :
 Calls prog 20 #[.slice a xs.length cap,.bool b] w fun e w'=>e=.returned (.bool (rowB xs b))∧w=w':=by
 have hl:=h.len
 have H:=hid h
 clear h
 cases b
 ·have HB:=hid (show rowB xs false=decide (xs.length=0) from rfl)
  by_cases h0:xs.length=0
  ·have h2:=hid h0
   rw [h0]
   clear h0
   go_enter func20,ntmps20
   go_wp2_with fail
   go_ret
   exact ⟨Ag (by rw [HB.out,h2.out];rfl),rfl⟩
  ·have hb:((xs.length:Int)==0)=false:=by rw [beq_eq_false_iff_ne];omega
   have h2:=hid h0
   clear h0
   go_enter func20,ntmps20
   go_wp2_with fail
   go_ret
   exact ⟨Ag (by rw [HB.out];simp [h2.out]),rfl⟩
 ·have HB:=hid (show rowB xs true=(areB xs&&decide (xs.length≤16)) from rfl)
  go_enter func20,ntmps20
  go_wp2_with fail
  go_loop [5] (fun i=>∃k:Nat,k≤xs.length∧i=.int .i64 k∧areB (xs.take k)=true) (fun i=>xs.length-(intOf i).toNat)
  case atStart=>exact ⟨0,Nat.zero_le _,rfl,rfl⟩
  case round =>
   obtain ⟨k,hk,rfl,ha⟩:=hrel
   have HA:=hid ha
   clear ha
   by_cases hlt:k<xs.length
   ·obtain ⟨b,off,rfl,hb,hc⟩:=H.out.at_ hlt
    have hcell:=hc k hlt
    clear hc
    have HS:=hid (Aa1 hlt HA.out)
    have HN:=hid (Ay9 hlt)
    cases ho:okN xs[k]
    ·have H2:=hid (HN.out ho)
     have HF:=hid (show Cf xs[k] true=false from ho)
     clear ho
     go_wp2_with fail
     refine (Hg _ _ _).mono ?_
     rintro e w' ⟨rfl,rfl⟩
     rw [HF.out]
     go_wp2_with fail
     go_ret
     exact ⟨Ag (by rw [HB.out,H2.out];rfl),rfl⟩
    ·have H2:=hid (HS.out ho)
     have HF:=hid (show Cf xs[k] true=true from ho)
     clear ho
     go_wp2_with fail
     refine (Hg _ _ _).mono ?_
     rintro e w' ⟨rfl,rfl⟩
     rw [HF.out]
     go_wp2_with fail
     go_round
     case rel=>exact ⟨k+1,by omega,by go_num,H2.out⟩
     case measure=>simp [intOf];omega
   ·have hke:k=xs.length:=by omega
    subst hke
    have H2:=hid (Al2 HA.out)
    go_wp2_with fail
    go_ret
    exact ⟨Ag (by rw [HB.out,H2.out,Bool.true_and];exact decide_eq_decide.2 (by omega)),rfl⟩
end
section
theorem Ch6 (a b c d e:Int) (w:World):Ae (w.alloc (.cells #[.int .i64 a,.int .i64 b,.int .i64 c,.int .i64 d,.int .i64 e] 3)) (some ⟨w.heap.size,0,none⟩) [a,b,c,d,e]:=by
 refine ⟨by simp [maxLen],.inr ⟨w.heap.size,0,rfl,by simp,fun i hi=>?_⟩⟩
 rw [World.cell?_alloc_at _ _ _ _ rfl]
 match i,hi with
 | 0,_=>rfl
 | 1,_=>rfl
 | 2,_=>rfl
 | 3,_=>rfl
 | 4,_=>rfl
end
section
def Dg8 (c:Cm) (w:World) (e:Ending) (w':World):Prop :=
 ∃ga gc wa wc,e=.returned (.agg (cC c ga gc wa wc))∧Ae w' ga c.gives∧Ae w' wa c.wants∧Below w.heap.size w w'
end
section
end
section
end
end Go.Proofs.Ytenpcndoilcjcaa
