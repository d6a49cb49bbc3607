/- The contracts of coin.Swap, coin.Pay, their reference twins, and of awake, built from the single cases. -/
import Derived.Test.YtnhkojpbbdaedaaGreatCoin
import Derived.Test.YtnhkojpbbdaedaaGreatKit
namespace Go.Proofs.YtnhkojpbbdaedaaGreat
open Go.ChangeShapes Go.WideShapes Go.ChangeAt Go.RowKit
set_option linter.unusedVariables false
theorem Sa (n:Int):isB n=true↔(0≤n∧n≤1073741824):=by unfold isB;simp
theorem Zn (a b pay fee:Int) (w:World) (a0:0≤a) (a1:a≤1073741824) (b0:0≤b) (b1:b≤1073741824) :
 Calls Tryz.prog 89 #[.int .i64 a,.int .i64 b,.int .i64 pay,.int .i64 fee] w fun e w'=>e=.returned (.tuple #[.int .i64 (Dx a b pay fee),.int .i64 (Dw a b pay fee),.int .i64 (Cg a b pay fee)])∧Below w.heap.size w w':=by
 by_cases h:pay<0∨fee<0
 ·refine (Eg3 a b pay fee w h).mono ?_
  rintro e w' ⟨rfl,rfl⟩
  exact ⟨by simp [Dx,Dw,Cg,h],Below.refl _ _⟩
 by_cases h2:a<pay∨b<fee
 ·refine (Dp6 a b pay fee w (by omega) (by omega) h2).mono ?_
  rintro e w' ⟨rfl,rfl⟩
  exact ⟨by simp [Dx,Dw,Cg,h,h2],Below.refl _ _⟩
 refine (Fl4 a b pay fee w a0 a1 b0 b1 (by omega) (by omega) (by omega) (by omega)).mono ?_
 rintro e w' ⟨rfl,hb⟩
 refine ⟨?_,hb⟩
 by_cases h3:a-pay+fee≤1073741824∧b-fee+pay≤1073741824
 ·have h4:(isB (a-pay+fee)&&isB (b-fee+pay))=true:=by
   rw [Bool.and_eq_true,Sa,Sa];omega
  simp [Dx,Dw,Cg,h,h2,h3,h4]
 ·have h4:(isB (a-pay+fee)&&isB (b-fee+pay))=false:=by
   rw [Bool.eq_false_iff];intro h;rw [Bool.and_eq_true,Sa,Sa] at h;omega
  simp [Dx,Dw,Cg,h,h2,h3,h4]
end Go.Proofs.YtnhkojpbbdaedaaGreat
