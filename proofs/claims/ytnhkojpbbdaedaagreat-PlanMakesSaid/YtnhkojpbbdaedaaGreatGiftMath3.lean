/- Some items laid where they lie in another world: that world, if nothing else is elsewhere. -/
import Derived.Test.YtnhkojpbbdaedaaGreatHoldS
import Derived.Test.YtnhkojpbbdaedaaGreatGGiftM
namespace Go.Proofs.YtnhkojpbbdaedaaGreat
open Go.ChangeShapes Go.WideShapes Go.ChangeAt Go.RowKit
set_option linter.unusedVariables false
open Go.RowKit
theorem Bu8 (y:Wd):∀(L:List Nat) (x:Wd) (n:Nat),n<x.wher.length→plOf (putAll x y L).wher n=if n∈L then plOf y.wher n else plOf x.wher n
 | [],x,n,_=>by simp [putAll]
 | k :: L,x,n,hn=>by
   have ih:=Bu8 y L (putW x k (plOf y.wher k)) n (by show n<(x.wher.set k _).length;simpa using hn)
   have e:putAll x y (k :: L)=putAll (putW x k (plOf y.wher k)) y L:=rfl
   rw [e,ih]
   have e2:plOf (putW x k (plOf y.wher k)).wher n=if n=k then plOf y.wher k else plOf x.wher n:=Dk hn
   rw [e2]
   by_cases h1:n∈L
   ·simp [h1]
   ·by_cases h2:n=k
    ·subst h2;simp
    ·simp [h1,h2]
theorem Av5 (y:Wd):∀(L:List Nat) (x:Wd),(putAll x y L).at_=x.at_∧(putAll x y L).coins=x.coins
 | [],_=>⟨rfl,rfl⟩
 | k :: L,x=>by
   have e:putAll x y (k :: L)=putAll (putW x k (plOf y.wher k)) y L:=rfl
   rw [e]
   exact Av5 y L (putW x k (plOf y.wher k))
theorem Dr7 {x y:Wd} {L:List Nat} (hd:y.d=x.d) (ha:y.at_=x.at_) (hc:y.coins=x.coins) (hl:y.wher.length=x.wher.length) (h:∀n,n<x.wher.length→¬n∈L→plOf y.wher n=plOf x.wher n):putAll x y L=y:=by
 have h1:=Cn9 x y L
 have h2:=Av5 y L x
 have h3:(putAll x y L).wher=y.wher:=by
  have hs:=Aa8 x y L
  refine Ct6 (by rw [hs.w,hl]) fun n hn=>?_
  rw [hs.w] at hn
  rw [Bu8 y L x n hn]
  by_cases hm:n∈L
  ·rw [if_pos hm]
  ·rw [if_neg hm,h n hn hm]
 rcases hz:putAll x y L with ⟨a,b,c,d⟩
 rw [hz] at h1 h2 h3
 simp only at h1 h2 h3
 rcases y with ⟨a',b',c',d'⟩
 simp only at hd ha hc h3
 rw [h1,h2.1,h2.2,h3,hd,ha,hc]
theorem Ou.putAll {x:Wd} {i q:Nat} {gs ws:List Nat} {pay fee:Int} (h:Ou x i q gs ws pay fee):putAll x (trN x i q gs ws) (gs++ws)=trN x i q gs ws :=
 Dr7 rfl rfl rfl (by show (trP _ _ _ _ _).length=_;rw [Pm]) fun n hn hm=>h.others hn (fun hg=>hm (List.mem_append_left _ hg)) (fun hw=>hm (List.mem_append_right _ hw))
end Go.Proofs.YtnhkojpbbdaedaaGreat
