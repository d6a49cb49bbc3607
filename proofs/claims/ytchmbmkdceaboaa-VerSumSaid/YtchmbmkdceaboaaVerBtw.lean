/- Versions that are read at two times: what lies between. Over whatever program. -/
import Derived.Test.YtchmbmkdceaboaaVerA
namespace Go.Proofs.Ytchmbmkdceaboaa
open Go.ChangeShapes Go.WideShapes Go.ChangeAt Go.RowKit
set_option linter.unusedVariables false
open Go.RowKit
def btwN (us:List Int) (p i j k:Nat):Nat:=((us.take (min k j)).drop i).count (p:Int)
theorem btw_zero (us:List Int) (p i j:Nat):btwN us p i j 0=0:=by simp [btwN]
theorem btw_step {us:List Int} (p i j:Nat) {k:Nat} (hk:k<us.length):btwN us p i j (k+1)=btwN us p i j k+if us[k]=(p:Int)∧i≤k∧k<j then 1 else 0:=by
 unfold btwN
 by_cases h1:k<j
 ·rw [show min (k+1) j=k+1 by omega,show min k j=k by omega,List.take_succ_eq_append_getElem hk]
  by_cases h2:i≤k
  ·rw [List.drop_append_of_le_length (by simp;omega),List.count_append]
   simp [h1,h2,List.count_singleton]
  ·rw [List.drop_eq_nil_of_le (by simp;omega),List.drop_eq_nil_of_le (by simp;omega)]
   simp [h2]
 ·rw [show min (k+1) j=min k j by omega]
  simp [h1]
theorem btw_all {us:List Int} {p i j:Nat} (l:List Int) (hp:p<l.length) (hij:i≤j) (hj:j≤us.length):(upsV l (us.take j)).getD p 0=(upsV l (us.take i)).getD p 0+(btwN us p i j us.length:Nat):=by
 rw [Gg8 _ l p hp,Gg8 _ l p hp]
 unfold btwN
 rw [show min us.length j=j by omega]
 have h:=List.take_append_drop i (us.take j)
 have e:(us.take j).take i=us.take i:=by rw [List.take_take,show min i j=i by omega]
 rw [e] at h
 have h2:=congrArg (fun q=>List.count (p:Int) q) h
 simp only [List.count_append] at h2
 omega
theorem btw_le (us:List Int) (p i j k:Nat):btwN us p i j k≤us.length:=by
 unfold btwN
 exact Nat.le_trans (List.count_le_length) (by simp;omega)
theorem read_ups {l us:List Int} {p:Nat} (hp:p<l.length):readV (upsV l us) (p:Int)=(upsV l us).getD p 0:=by
 have h:p<(upsV l us).length:=by rwa [Fk8]
 simp only [readV,Al6 h,if_true,Dt6,Int.toNat_natCast]
theorem ups_pos {l:List Int} (h:mayV l=true) (us:List Int) (p:Nat) (hp:p<l.length) (hu:us.length≤1000000):0≤(upsV l us).getD p 0∧(upsV l us).getD p 0≤4611686018427387904:=by
 have h2:p<(upsV l us).length:=by rwa [Fk8]
 have h3:=(upsV_vers h us hu).2 _ (List.getElem_mem h2)
 simpa [List.getD,h2] using h3
end Go.Proofs.Ytchmbmkdceaboaa
