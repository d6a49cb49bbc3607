/- The contracts of the coin package's functions: what each returns, for purses; each leaves old memory as it was. -/
import Derived.Test.YtaeclpjofclbeaaDoorRows
import Derived.WalkKit
import Derived.ProofKit
import Derived.OpenShut
import Derived.Below
import Derived.Lib.Hide
import Derived.IntWalk
namespace Go.Proofs.YtaeclpjofclbeaaDoor
open Go.ChangeShapes Go.WideShapes Go.ChangeAt Go.RowKit
set_option linter.unusedVariables false
def isB (n:Int):Bool:=decide (0≤n)&&decide (n≤1073741824)
theorem Vj (l:List Int) (k:Nat) (hk:k<l.length):(l.take (k+1)).sum=(l.take k).sum+l[k]:=by
 rw [List.take_succ_eq_append_getElem hk,List.sum_append];simp
theorem Au8 (l:List Int) (hb:∀k (h:k<l.length),0≤l[k]∧l[k]≤2147483648) (k:Nat) (hk:k≤l.length):0≤(l.take k).sum∧(l.take k).sum≤k*2147483648:=by
 induction k with
 | zero=>simp
 | succ k ih =>
   have h1:=ih (by omega)
   have h2:=hb k (by omega)
   have h3:=Vj l k (by omega)
   omega
def Cg (a b pay fee:Int):Int :=
 if pay<0∨fee<0 then 1 else if a<pay∨b<fee then 10 else if a-pay+fee≤1073741824∧b-fee+pay≤1073741824 then 0 else 11
def Dx (a b pay fee:Int):Int:=if Cg a b pay fee=0 then a-pay+fee else a
def Dw (a b pay fee:Int):Int:=if Cg a b pay fee=0 then b-fee+pay else b
def Hp6 (n:Int):Prop:=0≤n∧n≤1073741824
end Go.Proofs.YtaeclpjofclbeaaDoor
