/- What a line is read as, as sessions take it up: line.Get, and the document's own. -/
import Derived.Test.YtaeclpjofclbeaaDoorGLineR2
import Derived.Test.YtaeclpjofclbeaaDoorGSess
namespace Go.Proofs.YtaeclpjofclbeaaDoor
open Go.ChangeShapes Go.WideShapes Go.ChangeAt Go.RowKit
set_option linter.unusedVariables false
open Go.RowKit Go
def lineG (b:ByteArray):Cm × Int:=(Ng (Aq b.data.toList),if La (Aq b.data.toList) then 0 else 2)
theorem lineG_no (b:ByteArray) (h:¬(lineG b).2=0):(lineG b).1=c0:=by
 unfold lineG at h ⊢
 by_cases hb:La (Aq b.data.toList)=true
 ·rw [if_pos hb] at h;exact absurd rfl h
 ·show Ng _=_
  unfold Ng
  rw [if_neg hb];rfl
theorem lineG_yes (b:ByteArray) (h:(lineG b).2=0):1≤(lineG b).1.kind∧(lineG b).1.kind≤10:=by
 unfold lineG at h ⊢
 by_cases hb:La (Aq b.data.toList)=true
 ·have:=(Oa (Zz hb).1).1
  simp only [Co,Bool.and_eq_true,decide_eq_true_eq] at this
  exact this
 ·rw [if_neg hb] at h;exact absurd (show (2:Int)=0 from h) (by decide)
def GetQ (b:ByteArray) (w:World) (e:Ending) (w':World):Prop :=
 ∃(c:Cm) (ga:Option Addr) (gc:Nat) (wa:Option Addr) (wc:Nat),c=(lineG b).1∧e=.returned (.tuple #[.agg (cC c ga gc wa wc),.int .i64 (lineG b).2])∧Ae w' ga c.gives∧Ae w' wa c.wants∧Below w.heap.size w w'
theorem gets_q {b:ByteArray} {w w':World} {e:Ending} (h:Gets w (Aq b.data.toList) e w'):GetQ b w e w':=by
 exact h
theorem lget_as (b:ByteArray) (w:World) (hs:b.size≤500000) (ht:Tabs w):Calls Tryd.prog 31 #[.string b] w (GetQ b w):=(Ag7 b w hs ht).mono fun _ _ h=>gets_q h
end Go.Proofs.YtaeclpjofclbeaaDoor
