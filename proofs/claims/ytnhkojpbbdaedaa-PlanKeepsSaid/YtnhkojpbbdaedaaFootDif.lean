/- What is another one in one list than in another, by its numbers: plain mathematics. -/
import Derived.Test.YtnhkojpbbdaedaaGMem
namespace Go.Proofs.Ytnhkojpbbdaedaa
open Go.ChangeShapes Go.WideShapes Go.ChangeAt Go.RowKit
set_option linter.unusedVariables false
open Go.RowKit
def difTo {α:Type} [DecidableEq α] (xs ys:List α) (n:Nat):List Nat:=(List.range n).filter fun i=>decide (¬xs[i]?=ys[i]?)
section
variable {α:Type} [DecidableEq α] {xs ys:List α} {n:Nat}
theorem difTo_same (h:xs[n]?=ys[n]?):difTo xs ys (n+1)=difTo xs ys n:=by simp [difTo,List.range_succ,List.filter_append,h]
theorem difTo_more (h:¬xs[n]?=ys[n]?):difTo xs ys (n+1)=difTo xs ys n++[n]:=by simp [difTo,List.range_succ,List.filter_append,h]
theorem difTo_step:difTo xs ys n <+: difTo xs ys (n+1):=by
 by_cases h:xs[n]?=ys[n]?
 ·rw [difTo_same h];exact List.prefix_refl _
 ·rw [difTo_more h];exact List.prefix_append _ _
theorem difTo_pre:∀{m:Nat},n≤m→difTo xs ys n <+: difTo xs ys m
 | 0,h=>by rw [Nat.le_zero.1 h];exact List.prefix_refl _
 | m+1,h=>by
   by_cases e:n=m+1
   ·rw [e];exact List.prefix_refl _
   ·exact (difTo_pre (by omega)).trans difTo_step
theorem difTo_mem {k:Nat}:k∈difTo xs ys n↔k<n∧¬xs[k]?=ys[k]?:=by simp [difTo]
theorem difTo_len:(difTo xs ys n).length≤n:=by
 have:=List.length_filter_le (fun i=>decide (¬xs[i]?=ys[i]?)) (List.range n)
 simpa [difTo] using this
end
def difL {α:Type} [DecidableEq α] (xs ys:List α):List Nat:=difTo xs ys xs.length
theorem difL_len {α:Type} [DecidableEq α] (xs ys:List α):(difL xs ys).length≤xs.length:=difTo_len
theorem difL_mem {α:Type} [DecidableEq α] {xs ys:List α} {k:Nat}:k∈difL xs ys↔k<xs.length∧¬xs[k]?=ys[k]?:=difTo_mem
end Go.Proofs.Ytnhkojpbbdaedaa
