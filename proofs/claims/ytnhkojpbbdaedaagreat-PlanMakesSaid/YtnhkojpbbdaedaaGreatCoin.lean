/- The contracts of the coin package's functions: what each returns, for purses; each leaves old memory as it was. -/
import Derived.Test.YtnhkojpbbdaedaaGreatRows
import Derived.WalkKit
import Derived.ProofKit
import Derived.OpenShut
import Derived.Below
import Derived.Lib.Hide
import Derived.IntWalk
namespace Go.Proofs.YtnhkojpbbdaedaaGreat
open Go.ChangeShapes Go.WideShapes Go.ChangeAt Go.RowKit Go.Proofs.Tryz
open Lib (hid)
set_option linter.unusedVariables false
def isB (n:Int):Bool:=decide (0≤n)&&decide (n≤1073741824)
theorem Lr (n:Int) (w:World):Calls prog 125 #[.int .i64 n] w fun e w'=>e=.returned (.bool (isB n))∧w=w':=by
 unfold isB
 by_cases h1:0≤n<;>by_cases h2:n≤1073741824
 all_goals
  go_enter func125,ntmps125
  go_wp2
  go_ret
  exact ⟨by simp [*],rfl⟩
theorem Br (n:Int) (w:World):Calls prog 20 #[.int .i64 n] w fun e w'=>e=.returned (.bool (isB n))∧w=w':=by
 unfold isB
 by_cases h1:0≤n<;>by_cases h2:n≤1073741824
 all_goals
  go_enter func20,ntmps20
  go_wp2
  go_ret
  exact ⟨by simp [*],rfl⟩
theorem Vj (l:List Int) (k:Nat) (hk:k<l.length):(l.take (k+1)).sum=(l.take k).sum+l[k]:=by
 rw [List.take_succ_eq_append_getElem hk,List.sum_append];simp
theorem Au8 (l:List Int) (hb:∀k (h:k<l.length),0≤l[k]∧l[k]≤2147483648) (k:Nat) (hk:k≤l.length):0≤(l.take k).sum∧(l.take k).sum≤k*2147483648:=by
 induction k with
 | zero=>simp
 | succ k ih =>
   have h1:=ih (by omega)
   have h2:=hb k (by omega)
   have h3:=Vj l k (by omega)
   omega
theorem Ck1 (l:List Int) (b off cap:Nat) (w:World) (hl:l.length≤1000) (hb:∀k (h:k<l.length),0≤l[k]∧l[k]≤2147483648)
 (hc:∀k (h:k<l.length),w.cell? ⟨b,off+k,none⟩=some (.int .i64 l[k])) :
 Calls prog 124 #[.slice (some ⟨b,off,none⟩) l.length cap] w fun e w'=>e=.returned (.int .i64 l.sum)∧w=w':=by
 have HC:=hid hc
 have HB:=hid hb
 clear hc hb
 go_enter func124,ntmps124
 go_wp2
 go_loop [3,8] (fun t i=>∃k:Nat,k≤l.length∧i=.int .i64 k∧t=.int .i64 (l.take k).sum) (fun _ i=>l.length-(intOf i).toNat)
 case atStart=>exact ⟨0,Nat.zero_le _,rfl,rfl⟩
 case round =>
  obtain ⟨k,hk,rfl,rfl⟩:=hrel
  have hk1:=Au8 l HB.out k hk
  by_cases hlt:k<l.length
  ·have hcell:=HC.out k hlt
   have hb1:=HB.out k hlt
   go_wp2
   go_round
   case rel=>exact ⟨k+1,by omega,by go_num,by rw [Vj l k hlt]⟩
   case measure=>simp [intOf];omega
  ·have:k=l.length:=by omega
   subst this
   go_wp2
   go_ret
   exact ⟨rfl,rfl⟩
theorem Ev1 (a:Option Addr) (cap:Nat) (w:World) :
 Calls prog 124 #[.slice a 0 cap] w fun e w'=>e=.returned (.int .i64 0)∧w=w':=by
 go_enter func124,ntmps124
 go_wp2
 go_loop [3,8] (fun t i=>i=.int .i64 0∧t=.int .i64 0) (fun _ _=>0)
 case atStart=>exact ⟨rfl,rfl⟩
 case round =>
  obtain ⟨rfl,rfl⟩:=hrel
  go_wp2
  go_ret
  exact ⟨rfl,rfl⟩
def Cg (a b pay fee:Int):Int :=
 if pay<0∨fee<0 then 1 else if a<pay∨b<fee then 10 else if a-pay+fee≤1073741824∧b-fee+pay≤1073741824 then 0 else 11
def Dx (a b pay fee:Int):Int:=if Cg a b pay fee=0 then a-pay+fee else a
def Dw (a b pay fee:Int):Int:=if Cg a b pay fee=0 then b-fee+pay else b
def Hp6 (n:Int):Prop:=0≤n∧n≤1073741824
theorem Eg3 (a b pay fee:Int) (w:World) (h:pay<0∨fee<0) :
 Calls prog 89 #[.int .i64 a,.int .i64 b,.int .i64 pay,.int .i64 fee] w fun e w'=>e=.returned (.tuple #[.int .i64 a,.int .i64 b,.int .i64 1])∧w=w':=by
 by_cases h1:pay<0<;>by_cases h2:fee<0
 all_goals first|omega|skip
 all_goals
  clear h
  go_enter func89,ntmps89
  go_wp2
  go_ret3
  exact ⟨rfl,rfl⟩
theorem Dp6 (a b pay fee:Int) (w:World) (h0:0≤pay) (h1:0≤fee) (h:a<pay∨b<fee) :
 Calls prog 89 #[.int .i64 a,.int .i64 b,.int .i64 pay,.int .i64 fee] w fun e w'=>e=.returned (.tuple #[.int .i64 a,.int .i64 b,.int .i64 10])∧w=w':=by
 by_cases h1:a<pay<;>by_cases h2:b<fee
 all_goals first|omega|skip
 all_goals
  clear h
  go_enter func89,ntmps89
  go_wp2
  go_ret3
  exact ⟨rfl,rfl⟩
theorem Di0 (x y:Int) (w:World) (hx:0≤x∧x≤2147483648) (hy:0≤y∧y≤2147483648) (n:Nat) (hn:n=w.heap.size) :
 Calls prog 124 #[.slice (some ⟨n,0,none⟩) 2 2] (w.alloc (.cells #[.int .i64 x,.int .i64 y] 3)) fun e w'=>e=.returned (.int .i64 (x+y))∧(w.alloc (.cells #[.int .i64 x,.int .i64 y] 3))=w':=by
 subst hn
 refine (Ck1 [x,y] w.heap.size 0 2 (w.alloc (.cells #[.int .i64 x,.int .i64 y] 3)) (by simp) ?_ ?_).mono ?_
 ·intro k h
  match k,h with
  | 0,_=>exact hx
  | 1,_=>exact hy
 ·intro k h
  rw [World.cell?_alloc_at _ _ _ _ rfl]
  match k,h with
  | 0,_=>rfl
  | 1,_=>rfl
 ·rintro e w' ⟨rfl,rfl⟩
  exact ⟨by simp,rfl⟩
theorem Fl4 (a b pay fee:Int) (w:World) (a0:0≤a) (a1:a≤1073741824) (b0:0≤b) (b1:b≤1073741824) (h0:0≤pay) (h1:0≤fee) (h2:pay≤a) (h3:fee≤b) :
 Calls prog 89 #[.int .i64 a,.int .i64 b,.int .i64 pay,.int .i64 fee] w fun e w'=>e=.returned (if isB (a-pay+fee)&&isB (b-fee+pay) then .tuple #[.int .i64 (a-pay+fee),.int .i64 (b-fee+pay),.int .i64 0] else .tuple #[.int .i64 a,.int .i64 b,.int .i64 11])∧Below w.heap.size w w':=by
 cases k1:isB (a-pay+fee)<;>cases k2:isB (b-fee+pay)
 all_goals
  have K1:=hid k1
  have K2:=hid k2
  clear k1 k2
  go_enter func89,ntmps89
  go_wp2_with fail
  refine (Di0 (a-pay) fee w (by omega) (by omega) _ rfl).mono ?_
  rintro e w' ⟨rfl,rfl⟩
  go_wp2_with fail
  refine (Di0 (b-fee) pay _ (by omega) (by omega) _ (by simp)).mono ?_
  rintro e w' ⟨rfl,rfl⟩
  go_wp2_with fail
  refine (Lr _ _).mono ?_
  rintro e w' ⟨rfl,rfl⟩
  rw [K1.out]
  go_wp2_with fail
  try (refine (Lr _ _).mono ?_;rintro e w' ⟨rfl,rfl⟩;rw [K2.out];go_wp2_with fail)
  go_ret3
  exact ⟨rfl,((Below.refl _ _).alloc (Nat.le_refl _) _).alloc (by simp) _⟩
end Go.Proofs.YtnhkojpbbdaedaaGreat
