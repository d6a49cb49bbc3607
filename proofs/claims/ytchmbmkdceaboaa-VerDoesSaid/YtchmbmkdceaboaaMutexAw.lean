/- mutex: what the laws ask first of all. -/
import Derived.Test.YtchmbmkdceaboaaGWorld
import Derived.Test.YtchmbmkdceaboaaMutexC
namespace Go.Proofs.Ytchmbmkdceaboaa
open Go.ChangeShapes Go.WideShapes Go.ChangeAt Go.RowKit
set_option linter.unusedVariables false
open Go.RowKit Go
theorem Dn3 (W:World) (cs:Array Value) (l:List Int) (hcs:cs=(inV l).toArray) (hl:l.length≤100):LkAt (W.alloc (.cells cs 3)) (some ⟨W.heap.size,0,none⟩) l.length l:=by
 subst hcs
 refine ⟨⟨by unfold maxLen;omega,.inr ⟨_,_,rfl,by simp,fun i hi=>?_⟩⟩,Nat.le_refl _,by unfold maxLen;omega⟩
 rw [World.cell?_alloc_at _ _ _ _ rfl]
 simp [inV,hi]
theorem locks_of (l:List Int) (h1:l.length≤100) (h2:∀x∈l,0≤x∧x≤9223372036854775807):Yj l:=⟨h1,h2⟩
section
variable (a:Option Addr) (cap:Nat) (W:World)
end
theorem Dw9 (a b:Option Addr) (c d:Nat) (l:List Int) (n:Nat) (hn:l.length=n) (W:World) (h1:LkAt W a c l) (h2:LkAt W b d l):Calls Try.prog 12 #[.slice a n c,.slice b n d] W fun e w'=>e=.returned (.bool true)∧Below W.heap.size W w':=by
 subst hn
 have h:=Cn a b c d l l W h1.1 h2.1
 rw [decide_eq_true rfl] at h
 exact h
end Go.Proofs.Ytchmbmkdceaboaa
