/- What the document fixes of lines: plain mathematics. -/
import Derived.Test.YtaeclpjofclbeaaDoorGLineP
namespace Go.Proofs.YtaeclpjofclbeaaDoor
open Go.ChangeShapes Go.WideShapes Go.ChangeAt Go.RowKit
set_option linter.unusedVariables false
open Go.RowKit
def Zq:Cm:=⟨8,0,0,0,2,[1,2],5,[],0⟩
theorem line_words {xs:List (List UInt8)} (h:∀x∈xs,plain x=true):Aq (glue xs)=xs:=Sz xs h
theorem Dp0:mayB Zq=true:=by decide
theorem Cm2:wordsOf Zq=[[116,114,97,100,101],[50],[103,105,118,101],[49],[50],[99,111,105,110,115],[53],[102,111,114],[99,111,105,110,115],[48]]:=by
 have d:∀n,n<10→Lib.decDigits n=[UInt8.ofNat (48+n)]:=fun n hn=>by rw [Lib.decDigits,dif_pos hn]
 simp [wordsOf,Zq,Be,putP,getF,getL,Kd.word,wd,d,Lg,Dc,sFor,Aw,kindNames]
theorem Cx5:La [[116,114,97,100,101],[50],[103,105,118,101],[49],[50],[99,111,105,110,115],[53],[102,111,114],[99,111,105,110,115],[48]]=true∧Ng [[116,114,97,100,101],[50],[103,105,118,101],[49],[50],[99,111,105,110,115],[53],[102,111,114],[99,111,105,110,115],[48]]=Zq:=by
 rw [←Cm2];exact Im Dp0
theorem Cx4:La [[116,114,97,100,101],[50],[103,105,118,101],[49],[50],[99,111,105,110,115],[53],[102,111,114],[99,111,105,110,115]]=false:=by decide
def Bc5:Cm:=⟨1,3,0,0,0,[],0,[],0⟩
theorem Do4:La [[109,111,118,101],[119,101,115,116]]=true∧Ng [[109,111,118,101],[119,101,115,116]]=Bc5:=by
 have h:wordsOf Bc5=[[109,111,118,101],[119,101,115,116]]:=by
  simp [wordsOf,Bc5,Be,putP,getF,Kd.word,Nl,Aw,kindNames,wayNames]
 rw [←h];exact Im (by decide)
theorem Do3:La [[109,111,118,101],[119,101,115,116],[119,101,115,116]]=false:=by decide
end Go.Proofs.YtaeclpjofclbeaaDoor
