/- mutex: the document's own May, Set, Take, Give, Held. -/
import Derived.Test.YtchmbmkdceaboaaMutexC
namespace Go.Proofs.Ytchmbmkdceaboaa
open Go.ChangeShapes Go.WideShapes Go.ChangeAt Go.RowKit
open Lib (hid)
set_option linter.unusedVariables false
open Go.RowKit Go
def mayL (l:List Int):Bool:=l.all (fun x=>decide (0≤x))&&decide (l.length≤100)
theorem take_more {l:List Int} {k:Nat} (h:k<l.length) (P:Int→Bool):(l.take (k+1)).all P=((l.take k).all P&&P l[k]):=by
 rw [List.take_succ_eq_append_getElem h,List.all_append];simp
theorem set_more {l:List Int} {p:Nat} {x:Int} {k:Nat} (h:k<l.length):(l.set p x).take (k+1)=(l.set p x).take k++[if k=p then x else l[k]]:=by
 rw [List.take_succ_eq_append_getElem (by simpa using h),List.getElem_set]
 by_cases hk:p=k
 ·simp [hk]
 ·have:¬k=p:=fun e=>hk e.symm
  simp [hk,this]
set_option maxRecDepth 100000 in
set_option maxHeartbeats 400000 in
theorem Gn9 (a:Option Addr) (cap:Nat) (l:List Int) (p:Nat) (x:Int) (w:World) (h:Ae w a l) (hl:l.length≤100) (hp:p<l.length):Calls Try.prog 16 #[.slice a l.length cap,.int .i64 (p:Int),.int .i64 x] w fun e w'=>Ee0 (l.set p x) w e w':=by
 have HI:=hid h
 have hm:=h.len
 have HN:=hid hl
 clear h hl
 go_enter Try.func16,Try.ntmps16
 go_wp2_with fail
 go_loopw [7,8] (fun v i wr=>∃k:Nat,k≤l.length∧i=.int .i64 k∧RowI w.heap.size wr v ((l.set p x).take k)∧Below w.heap.size w wr) (fun _ i _=>l.length-(intOf i).toNat)
 case atStart=>exact ⟨0,Nat.zero_le _,rfl,RowI.nil _,Below.refl _ _⟩
 case round =>
  obtain ⟨k,hk,rfl,hg,hb⟩:=hrel
  have HG:=hid hg
  have HB:=hid hb
  clear hg hb
  by_cases hlt:k<l.length
  ·have HM:=hid (set_more (p:=p) (x:=x) hlt)
   have HLN:=hid (show ((l.set p x).take k).length+1≤1000000 by have:=HN.out;simp;omega)
   have hw:IntKind.i64.wrap ((k:Int)+1)=(k:Int)+1:=IntWalk.i64_in _ (by omega)
   by_cases he:k=p
   ·have q0:((k:Int)==(p:Int))=true:=by simp [he]
    have HM2:=hid (show (l.set p x).take (k+1)=(l.set p x).take k++[x] by rw [HM.out,if_pos he])
    clear HM he HI
    obtain ⟨v3,W3,hr3,hg3,hb3⟩:=HG.out.one x HLN.out HB.out.size
    have HR3:=hid hr3
    have HG3:=hid hg3
    have HB3:=hid (HG.out.below HB.out (Nat.le_refl _) HB.out.size hb3)
    clear hr3 hg3 hb3 HG HB
    go_wp2_with (at_builtin;refine Bb rfl (.tmp 18) (.tmp 20) 22 rfl _ _ _ W3 rfl rfl HR3.out ?_)
    go_roundw
    case rel=>exact ⟨k+1,by omega,by go_num,by rw [HM2.out];exact HG3.out,HB3.out⟩
    case measure=>simp [intOf];omega
   ·have q0:((k:Int)==(p:Int))=false:=by rw [beq_eq_false_iff_ne];omega
    have HM2:=hid (show (l.set p x).take (k+1)=(l.set p x).take k++[l[k]] by rw [HM.out,if_neg he])
    clear HM he
    obtain ⟨b,o,rfl,hbb,hc⟩:=HI.out.at_ hlt
    have hck:=(HB.out.cell (p:=⟨b,o+k,none⟩) hbb).trans (hc k hlt)
    clear hc
    generalize l[k]=y at *
    obtain ⟨v3,W3,hr3,hg3,hb3⟩:=HG.out.one y HLN.out HB.out.size
    have HR3:=hid hr3
    have HG3:=hid hg3
    have HB3:=hid (HG.out.below HB.out (Nat.le_refl _) HB.out.size hb3)
    clear hr3 hg3 hb3 HG HB
    go_wp2_with (at_builtin;refine Bb rfl (.tmp 22) (.tmp 27) 22 rfl _ _ _ W3 rfl rfl HR3.out ?_)
    go_roundw
    case rel=>exact ⟨k+1,by omega,by go_num,by rw [HM2.out];exact HG3.out,HB3.out⟩
    case measure=>simp [intOf];omega
  ·have hke:k=l.length:=by omega
   subst hke
   have HE:=hid (show (l.set p x).take l.length=l.set p x from List.take_of_length_le (by simp))
   have hG:=HG.out
   rw [HE.out] at hG
   obtain ⟨g,gc,rfl,hx,hn,hr⟩:=hG.own
   clear hG
   have HX:=hid hx
   have HNN:=hid hn
   have HRR:=hid hr
   clear hx hn hr HG HI
   go_wp2_with fail
   go_ret
   exact ⟨g,gc,by rw [List.length_set];rfl,HX.out,HNN.out,HRR.out,HB.out⟩
end Go.Proofs.Ytchmbmkdceaboaa
