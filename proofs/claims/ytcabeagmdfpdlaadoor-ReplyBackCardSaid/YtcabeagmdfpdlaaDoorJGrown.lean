import Derived.Test.YtcabeagmdfpdlaaDoorRows
import Derived.Test.YtcabeagmdfpdlaaDoorKit
import Derived.Test.YtcabeagmdfpdlaaDoorStrs
import Derived.Test.YtcabeagmdfpdlaaDoorJTab
import Derived.Test.YtcabeagmdfpdlaaDoorJBlk
import Derived.Test.YtcabeagmdfpdlaaDoorJCut
import Derived.Test.YtcabeagmdfpdlaaDoorJAppend
import Derived.Maps.AppendAt
import Derived.WalkKit
import Derived.ProofKit
import Derived.OpenShut
import Derived.IntWalk
/- What grows: worlds in which one row alone may have been written. A word appended. -/
namespace Go.Proofs.YtcabeagmdfpdlaaDoor
open Go.ChangeShapes Go.WideShapes Go.ChangeAt Go.RowKit
set_option linter.unusedVariables false
open Go.RowKit Go
theorem grown_below {W W1 : World} (h : Below W.heap.size W W1) (r : Option Nat) : W.grownBy W1 r := ⟨h.os, h.tape, h.output, h.size, fun k hk _ => h.block k hk⟩
theorem grown_trans {W W1 W2 : World} {r r1 : Option Nat} (h : W.grownBy W1 r) (k : W1.grownBy W2 r1) (hr : r1 = r ∨ ∃ g, r1 = some g ∧ W.heap.size ≤ g) : W.grownBy W2 r :=
  ⟨k.os.trans h.os, k.tape.trans h.tape, k.output.trans h.output, Nat.le_trans h.size k.size, fun b hb hne => (k.block b (Nat.lt_of_lt_of_le hb h.size) (fun e => by
    rcases hr with hr | ⟨g, hr, hg⟩
    · exact hne (by rw [e, hr])
    · rw [hr] at e; have := Option.some.inj e; omega)).trans (h.block b hb hne)⟩
theorem grown_refl (W : World) (r : Option Nat) : W.grownBy W r := ⟨rfl, rfl, rfl, Nat.le_refl _, fun _ _ _ => rfl⟩
/-- Where a row may lie that was v's. -/
def Moves (W : World) (v v' : Value) : Prop := v'.ownBlock = v.ownBlock ∨ ∃ g, v'.ownBlock = some g ∧ W.heap.size ≤ g
theorem Moves.refl (W : World) (v : Value) : Moves W v v := .inl rfl
theorem Moves.trans {W W1 : World} {v v1 v2 : Value} (h : Moves W v v1) (hs : W.heap.size ≤ W1.heap.size) (k : Moves W1 v1 v2) : Moves W v v2 := by
  rcases k with k | ⟨g, k, hg⟩
  · rcases h with h | ⟨g, h, hg⟩
    · exact .inl (k.trans h)
    · exact .inr ⟨g, k.trans h, hg⟩
  · exact .inr ⟨g, k, by omega⟩
/-- One word more, appended behind its one-cell block. -/
theorem append_one {W : World} {base n : Nat} {v : Value} {ys : List Value} (hown : W.ownsRow base 9 1 v n ys) (x : List UInt8) (hn : n + 1 ≤ 1000000) (hb : base ≤ W.heap.size) :
    ∃ v' W', (Builtin.append_ #[48, 48] 48 #[v, .slice (some ⟨W.heap.size, 0, none⟩) 1 1]).run Tryd.prog (W.alloc (.cells #[.string ⟨x.toArray⟩] 9)) = .ok v' W' ∧ W'.ownsRow base 9 1 v' (n + 1) (ys ++ [str x]) ∧ W.grownBy W' v.ownBlock ∧ Moves W v v' := by
  obtain ⟨i0, hi0, hz0, hz1, hz2⟩ := info_parts string_info
  obtain ⟨v', W', hr, h1, h2, -, h4⟩ := run_append_own_at (P := Tryd.prog) (W.alloc (.cells #[.string ⟨x.toArray⟩] 9)) base 48 48 9 i0 (.string ⟨#[]⟩) 1 16 Tryd.underlying48 hi0 hz0 hz1 hz2 rfl (by decide) v n ys (hown.alloc _) ⟨W.heap.size, 0, none⟩ 1 1 [.string ⟨x.toArray⟩] rfl
    (cell_one_new _ _ _) (by intro u hu; simp at hu; subst hu; rfl) (by unfold maxLen; omega) (by omega) (by simp; omega)
  refine ⟨v', W', hr, h1, grown_trans (World.grownBy_alloc W _ v.ownBlock) h2 (.inl rfl), ?_⟩
  rcases h4 with h4 | h4
  · exact .inl h4
  · exact .inr ⟨_, h4, by simp⟩
theorem row_below {W W1 : World} {base n : Nat} {v : Value} {ys : List Value} (h : W.ownsRow base 9 1 v n ys) (hb : Below W.heap.size W W1) : W1.ownsRow base 9 1 v n ys := h.kept (row := none) (grown_below hb none) (by cases v.ownBlock <;> simp)
/-- An append whose run is known, as one step of a region that draws its order. -/
theorem step_append {P : Program} {ops : Array Oper} {o : Oper} {a : Act} {w : World} {K : Act → World → Prop} {Q : Exit → Act → World → Prop} {E : Prop}
    (hg : o.guard = none) (s x : Operand) (t : TypeId) (hop : o.op = Op.call { callee := Callee.builtin Builtin.append, args := #[s, x], argTypes := #[t, t] })
    (v u v' : Value) (w' : World) (hs : a.eval s = v) (hx : a.eval x = u) (hrun : (Builtin.append_ #[t, t] o.type #[v, u]).run P w = .ok v' w')
    (hK : K (a.put o.dst v') w') : if Region.wanted o (yielded ops a.tmps) = true then Oper.wp P o a w K Q else E := by
  rw [if_pos (by simp [Region.wanted, hg])]
  unfold Oper.wp
  simp [execOp, hop, resolve, invoke, builtin, hs, hx, hrun, Result.andThen]
  exact hK
theorem Blk.grow {W W' : World} {g : Nat} {t : TypeId} {cs : Array Value} {r : Option Nat} (h : Blk W g t cs) (hb : W.grownBy W' r) (hg : some g ≠ r) : Blk W' g t cs := h.grown hb hg
end Go.Proofs.YtcabeagmdfpdlaaDoor
