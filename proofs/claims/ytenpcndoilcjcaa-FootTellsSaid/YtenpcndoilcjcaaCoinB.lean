/- The contracts of coin.Swap, coin.Pay, their reference twins, and of awake, built from the single cases. -/
import Derived.Test.YtenpcndoilcjcaaCoin
import Derived.Test.YtenpcndoilcjcaaKit
namespace Go.Proofs.Ytenpcndoilcjcaa
open Go.ChangeShapes Go.WideShapes Go.ChangeAt Go.RowKit Go.Proofs.Try
open Lib (hid)
set_option linter.unusedVariables false
theorem Sa (n:Int):isB n=true↔(0≤n∧n≤1073741824):=by unfold isB;simp
theorem Bf2 (a b pay fee:Int) (w:World) (a0:0≤a) (a1:a≤1073741824) (b0:0≤b) (b1:b≤1073741824) :
 Calls prog 55 #[.int .i64 a,.int .i64 b,.int .i64 pay,.int .i64 fee] w fun e w'=>e=.returned (.tuple #[.int .i64 (Dx a b pay fee),.int .i64 (Dw a b pay fee),.int .i64 (Cg a b pay fee)])∧w=w':=by
 have fin:∀p,p=(Dx a b pay fee,Dw a b pay fee,Cg a b pay fee)→Ending.returned (.tuple #[.int .i64 p.1,.int .i64 p.2.1,.int .i64 p.2.2])=Ending.returned (.tuple #[.int .i64 (Dx a b pay fee),.int .i64 (Dw a b pay fee),.int .i64 (Cg a b pay fee)]):=by
  rintro p rfl;rfl
 have FIN:=hid fin
 clear fin
 by_cases h:pay<0∨fee<0
 ·have HH:=hid h
  by_cases h1:pay<0<;>by_cases h2:fee<0
  all_goals first|omega|skip
  all_goals
   clear h
   go_enter func55,ntmps55
   go_wp2
   go_ret3
   exact ⟨FIN.out (a,b,1) (by simp [Dx,Dw,Cg,HH.out]),rfl⟩
 by_cases h2:a<pay∨b<fee
 ·have HH:=hid h
  have HH2:=hid h2
  have p0:0≤pay:=by omega
  have f0:0≤fee:=by omega
  by_cases h3:a<pay<;>by_cases h4:b<fee
  all_goals first|omega|skip
  all_goals
   clear h h2
   go_enter func55,ntmps55
   go_wp2
   go_ret3
   exact ⟨FIN.out (a,b,10) (by simp [Dx,Dw,Cg,HH.out,HH2.out]),rfl⟩
 have HH:=hid h
 have HH2:=hid h2
 have p0:0≤pay:=by omega
 have f0:0≤fee:=by omega
 have p1:pay≤a:=by omega
 have f1:fee≤b:=by omega
 clear h h2
 have e11:(isB (a+fee-pay)&&isB (b+pay-fee))=false→(a,b,11)=(Dx a b pay fee,Dw a b pay fee,Cg a b pay fee):=by
  intro h
  have h3:¬(a-pay+fee≤1073741824∧b-fee+pay≤1073741824):=by
   intro h4;rw [Bool.eq_false_iff] at h;apply h;rw [Bool.and_eq_true,Sa,Sa];omega
  simp [Dx,Dw,Cg,HH.out,HH2.out,h3]
 have e0:(isB (a+fee-pay)&&isB (b+pay-fee))=true→(a+fee-pay,b+pay-fee,0)=(Dx a b pay fee,Dw a b pay fee,Cg a b pay fee):=by
  intro h
  rw [Bool.and_eq_true,Sa,Sa] at h
  have h3:(a-pay+fee≤1073741824∧b-fee+pay≤1073741824):=by omega
  simp [Dx,Dw,Cg,HH.out,HH2.out,h3];omega
 cases k1:isB (a+fee-pay)<;>cases k2:isB (b+pay-fee)
 all_goals
  simp only [k1,k2,Bool.and_self,Bool.and_true,Bool.and_false,forall_const,reduceCtorEq,false_implies] at e11 e0
  have E:=hid e11
  have E0:=hid e0
  have K1:=hid k1
  have K2:=hid k2
  clear k1 k2 e11 e0
  go_enter func55,ntmps55
  go_wp2_with fail
  refine (Br _ _).mono ?_
  rintro e w' ⟨rfl,rfl⟩
  rw [K1.out]
  go_wp2_with fail
  try (refine (Br _ _).mono ?_;rintro e w' ⟨rfl,rfl⟩;rw [K2.out];go_wp2_with fail)
  go_ret3
  first
   | exact ⟨FIN.out _ E.out,rfl⟩
   | exact ⟨FIN.out _ E0.out,rfl⟩
end Go.Proofs.Ytenpcndoilcjcaa
