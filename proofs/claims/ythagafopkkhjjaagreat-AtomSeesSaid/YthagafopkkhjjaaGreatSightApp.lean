/- Two lists of what is seen, one behind the other, in a row of the call's own. -/
import Derived.Test.YthagafopkkhjjaaGreatRows
import Derived.Test.YthagafopkkhjjaaGreatKit
import Derived.Test.YthagafopkkhjjaaGreatGMem
import Derived.Test.YthagafopkkhjjaaGreatCoin
import Derived.Test.YthagafopkkhjjaaGreatGWorld
import Derived.Test.YthagafopkkhjjaaGreatGCopy
import Derived.Test.YthagafopkkhjjaaGreatGTreeL
import Derived.Laws.OwnMore
import Derived.OwnWalk
import Derived.Maps.AppendAt
import Derived.WalkKit
import Derived.ProofKit
import Derived.OpenShut
import Derived.IntWalk
namespace Go.Proofs.YthagafopkkhjjaaGreat
open Go.ChangeShapes Go.WideShapes Go.ChangeAt Go.RowKit
set_option linter.unusedVariables false
open Go.RowKit Go
theorem sappend_row {W : World} {base k : Nat} {v : Value} {ys : List Value} {a : Option Addr} {cap : Nat} {xs : List Sn} (hown : W.ownsRow base 54 3 v k ys) (hu : RowAt 3 seC W a xs) (hl : k + xs.length ≤ 1000000) (hb : base ≤ W.heap.size) :
    ∃ v' W', (Builtin.append_ #[36, 36] 36 #[v, .slice a xs.length cap]).run Tryz.prog W = .ok v' W' ∧ W'.ownsRow base 54 3 v' (k + xs.length) (ys ++ xs.flatMap seC) ∧ W.grownBy W' v.ownBlock := by
  obtain ⟨i0, hi0, hz0, hz1, hz2⟩ := info_parts sn_info
  obtain ⟨hm, h⟩ := hu
  by_cases hx : xs = []
  · subst hx
    have hsrc : Src Tryz.prog i0.size 36 (.slice a 0 cap) 0 [] W := by
      cases a with
      | none => exact Src.ofNil (w := W) Tryz.underlying36 cap
      | some p => exact Src.ofSlice W Tryz.underlying36 p 0 cap [] (by simp) (by simp) (by simp)
    have hform : ∃ b c, v = .slice b k c ∧ k ≤ c := by
      rcases hown.2 with ⟨rfl, rfl⟩ | ⟨g, c, cur, rfl, _, _, hc, _⟩
      · exact ⟨none, 0, rfl, Nat.le_refl _⟩
      · exact ⟨_, c, rfl, hc⟩
    obtain ⟨b, c, rfl, hc⟩ := hform
    exact ⟨_, W, run_append_nothing W 36 36 36 54 i0 Tryz.underlying36 hi0 b k c hc _ hsrc, by simpa using hown, ⟨rfl, rfl, rfl, Nat.le_refl _, fun _ _ _ => rfl⟩⟩
  · rcases h with h | ⟨b, off, rfl, hb2, hc⟩
    · exact absurd h hx
    · have hlen : (xs.flatMap seC).length = xs.length * 3 := by
        clear hc hx hm hl
        induction xs with
        | nil => rfl
        | cons s r ih => rw [List.flatMap_cons, List.length_append, ih, seC_len, List.length_cons]; omega
      obtain ⟨v', W', hr, h1, h2, -⟩ := run_append_own (P := Tryz.prog) W base 36 36 54 i0 (.agg #[.int .i64 0, .int .i64 0, .int .i64 0]) 3 24 Tryz.underlying36 hi0 hz0 hz1 hz2 rfl (by decide) v k ys hown ⟨b, off, none⟩ xs.length cap (xs.flatMap seC) hlen
        (fun j u hj => by
          have hj1 : j < (xs.flatMap seC).length := (List.getElem?_eq_some_iff.1 hj).1
          rw [hlen] at hj1
          have hi : j / 3 < xs.length := by omega
          have ej : j / 3 * 3 + j % 3 = j := by omega
          have h3 := hc (j / 3) hi (j % 3) (by omega)
          have h4 := flat_get seC_len xs (j / 3) hi (j % 3) (by omega)
          rw [ej] at h4
          rw [Nat.add_assoc, ej, ← h4, hj] at h3
          by_cases h0 : j = 0 <;> simp [Addr.add, h0] at h3 ⊢ <;> exact h3)
        (fun u hu => by rw [List.mem_flatMap] at hu; obtain ⟨s, _, hs⟩ := hu; exact seC_one s u hs) (by unfold maxLen; omega) (by omega) hb
      exact ⟨v', W', hr, h1, h2⟩
theorem sempty_row (w : World) : (w.alloc (.cells #[] 54)).ownsRow w.heap.size 54 3 (.slice (some ⟨w.heap.size, 0, none⟩) 0 0) 0 [] :=
  ⟨rfl, .inr ⟨w.heap.size, 0, #[], rfl, Nat.le_refl _, by show (w.heap.push _)[w.heap.size]? = some _; simp, Nat.le_refl _, by unfold maxLen; omega, rfl, rfl⟩⟩
theorem sown_apart {w : World} {base : Nat} {v : Value} {k : Nat} {ys : List Value} (h : w.ownsRow base 54 3 v k ys) {g : Nat} (hg : g < base) : v.ownBlock ≠ some g := by
  rcases h.2 with ⟨rfl, h0⟩ | ⟨q, c, cur, rfl, hq, _⟩
  · simp [Value.ownBlock]
  · simp only [Value.ownBlock, ne_eq, Option.some.injEq]; omega
/-- 'append(append([]Seen{}, xs...), ys...)': a list of the call's own. -/
theorem sappend_both {W : World} {n : Nat} (hn : W.heap.size = n) {a b : Option Addr} {ca cb : Nat} {xs ys : List Sn} (hu : RowAt 3 seC W a xs) (hv : RowAt 3 seC W b ys) (hx : xs.length ≤ 1000) (hy : ys.length ≤ 1000) :
    ∃ v1 W1 g c W2, (Builtin.append_ #[36, 36] 36 #[.slice (some ⟨n, 0, none⟩) 0 0, .slice a xs.length ca]).run Tryz.prog (W.alloc (.cells #[] 54)) = .ok v1 W1 ∧
      (Builtin.append_ #[36, 36] 36 #[v1, .slice b ys.length cb]).run Tryz.prog W1 = .ok (.slice g (xs ++ ys).length c) W2 ∧
      Below W.heap.size W W1 ∧ Below W.heap.size W W2 ∧ RowAt 3 seC W2 g (xs ++ ys) := by
  subst hn
  have b0 : Below W.heap.size W (W.alloc (.cells #[] 54)) := (Below.refl _ _).alloc (Nat.le_refl _) _
  obtain ⟨v1, W1, r1, o1, g1⟩ := sappend_row (cap := ca) (sempty_row W) (hu.alloc (.cells #[] 54)) (by omega) b0.size
  have b1 : Below W.heap.size W W1 := b0.grown g1 b0.size (fun k hk => by simp [Value.ownBlock] at hk; omega)
  rw [Nat.zero_add, List.nil_append] at o1
  obtain ⟨v2, W2, r2, o2, g2⟩ := sappend_row (cap := cb) o1 (hv.below b1 (Nat.le_refl _)) (by omega) b1.size
  have b2 : Below W.heap.size W W2 := b1.grown g2 b1.size (fun k hk => by
    apply Decidable.byContradiction; intro hc
    exact sown_apart o1 (g := k) (by omega) hk)
  have o3 : GrowR 3 54 seC W.heap.size W2 v2 (xs ++ ys) := by
    unfold GrowR
    rw [List.flatMap_append, List.length_append]
    exact o2
  obtain ⟨g, c, rfl, ho⟩ := o3.own seC_len
  exact ⟨v1, W1, g, c, W2, r1, r2, b1, b2, ho.row⟩
theorem sstep_append {P : Program} {ops : Array Oper} {o : Oper} {a : Act} {w : World} {K : Act → World → Prop} {Q : Exit → Act → World → Prop} {E : Prop}
    (hg : o.guard = none) (s x : Operand) (t : TypeId) (hop : o.op = Op.call { callee := Callee.builtin Builtin.append, args := #[s, x], argTypes := #[t, t] })
    (v u v' : Value) (w' : World) (hs : a.eval s = v) (hx : a.eval x = u) (hrun : (Builtin.append_ #[t, t] o.type #[v, u]).run P w = .ok v' w')
    (hK : K (a.put o.dst v') w') : if Region.wanted o (yielded ops a.tmps) = true then Oper.wp P o a w K Q else E := by
  rw [if_pos (by simp [Region.wanted, hg])]
  unfold Oper.wp
  simp [execOp, hop, resolve, invoke, builtin, hs, hx, hrun, Result.andThen]
  exact hK
end Go.Proofs.YthagafopkkhjjaaGreat
