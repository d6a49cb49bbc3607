import Derived.Test.YtcabeagmdfpdlaaDoorRows
import Derived.Test.YtcabeagmdfpdlaaDoorJCut
import Derived.Deep.Upon
import Derived.WalkKit
import Derived.ProofKit
import Derived.OpenShut
import Derived.IntWalk
/- An append of a list of words to a row of the call's own, as it runs, and as one step of the walk. -/
namespace Go.Proofs.YtcabeagmdfpdlaaDoor
open Go.ChangeShapes Go.WideShapes Go.ChangeAt Go.RowKit
set_option linter.unusedVariables false
open Go.RowKit Go

/-- An append whose run is known, as one step. -/
theorem append_step {P : Program} {ops : Array Oper} {rest : List Oper} {o : Oper} {a : Act} {Q : Exit → Act → World → Prop} {w : World} (hgd : o.guard = none) (s x : Operand) (t : TypeId)
    (ho : o.op = .call { callee := .builtin .append, args := #[s, x], argTypes := #[t, t] }) (v u v' : Value) (w' : World) (hs : a.eval s = v) (hx : a.eval x = u)
    (hrun : (Builtin.append_ #[t, t] o.type #[v, u]).run P w = .ok v' w') (h : wpList P ops Q rest (a.put o.dst v') w') : wpList P ops Q (o :: rest) a w :=
  wpList_plain hgd fun K hK => by
    unfold Oper.wp
    simp [execOp, ho, resolve, invoke, builtin, hs, hx, hrun, Result.andThen]
    exact hK _ _ h
theorem append_strs {W : World} {base k : Nat} {v u : Value} {ys : List Value} {xs : List (List UInt8)} (ty : TypeId) (hown : W.ownsRow base 9 1 v k ys) (hu : Strs W u xs) (hl : k + xs.length ≤ 1000000) (hb : base ≤ W.heap.size) :
    ∃ v' W', (Builtin.append_ #[48, 48] ty #[v, u]).run Tryd.prog W = .ok v' W' ∧ W'.ownsRow base 9 1 v' (k + xs.length) (ys ++ xs.map str) ∧ W.grownBy W' v.ownBlock := by
  obtain ⟨i0, hi0, hz0, hz1, hz2⟩ := info_parts string_info
  obtain ⟨a, cap, rfl, hm, h⟩ := hu
  by_cases hx : xs = []
  · subst hx
    have hsrc : Src Tryd.prog i0.size 48 (.slice a 0 cap) 0 [] W := by
      cases a with
      | none => exact Src.ofNil (w := W) Tryd.underlying48 cap
      | some p => exact Src.ofSlice W Tryd.underlying48 p 0 cap [] (by simp) (by simp) (by simp)
    have hform : ∃ b c, v = .slice b k c ∧ k ≤ c := by
      rcases hown.2 with ⟨rfl, rfl⟩ | ⟨g, c, cur, rfl, _, _, hc, _⟩
      · exact ⟨none, 0, rfl, Nat.le_refl _⟩
      · exact ⟨_, c, rfl, hc⟩
    obtain ⟨b, c, rfl, hc⟩ := hform
    exact ⟨_, W, run_append_nothing W 48 48 ty 9 i0 Tryd.underlying48 hi0 b k c hc _ hsrc, by simpa using hown, ⟨rfl, rfl, rfl, Nat.le_refl _, fun _ _ _ => rfl⟩⟩
  · rcases h with h | ⟨b, off, rfl, hb2, hc⟩
    · exact absurd h hx
    · obtain ⟨v', W', hr, h1, h2, -⟩ := run_append_own (P := Tryd.prog) W base 48 ty 9 i0 (.string ⟨#[]⟩) 1 16 Tryd.underlying48 hi0 hz0 hz1 hz2 rfl (by decide) v k ys hown ⟨b, off, none⟩ xs.length cap (xs.map str) (by simp)
        (fun j u hj => by
          rw [List.getElem?_map] at hj
          cases hq : xs[j]? with
          | none => rw [hq] at hj; simp at hj
          | some x =>
            rw [hq] at hj; simp at hj; subst hj
            obtain ⟨hj2, rfl⟩ := List.getElem?_eq_some_iff.1 hq
            have := hc j hj2
            by_cases h0 : j = 0 <;> simp [Addr.add, h0] at this ⊢ <;> exact this)
        (fun u hu => by simp at hu; obtain ⟨x, _, rfl⟩ := hu; rfl) (by unfold maxLen; omega) (by omega) hb
      exact ⟨v', W', hr, h1, h2⟩
/-- An empty slice literal owns its row. -/
theorem empty_owned (w : World) : (w.alloc (.cells #[] 9)).ownsRow w.heap.size 9 1 (.slice (some ⟨w.heap.size, 0, none⟩) 0 0) 0 [] :=
  ⟨rfl, .inr ⟨w.heap.size, 0, #[], rfl, Nat.le_refl _, by show (w.heap.push _)[w.heap.size]? = some _; simp, Nat.le_refl _, by unfold maxLen; omega, rfl, rfl⟩⟩
end Go.Proofs.YtcabeagmdfpdlaaDoor
