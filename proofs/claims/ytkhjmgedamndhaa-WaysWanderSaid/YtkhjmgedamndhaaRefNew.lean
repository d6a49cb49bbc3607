/- The document's own New: the world of a description that may be. -/
import Derived.Test.YtkhjmgedamndhaaRows
import Derived.Test.YtkhjmgedamndhaaKit
import Derived.Test.YtkhjmgedamndhaaStrs
import Derived.Test.YtkhjmgedamndhaaCoin
import Derived.Test.YtkhjmgedamndhaaBlk
import Derived.Test.YtkhjmgedamndhaaHolds
import Derived.Test.YtkhjmgedamndhaaWorldMath
import Derived.Test.YtkhjmgedamndhaaWorldAt
import Derived.Test.YtkhjmgedamndhaaDescFloors
import Derived.Test.YtkhjmgedamndhaaDescFit2
import Derived.Test.YtkhjmgedamndhaaDescRight
import Derived.Test.YtkhjmgedamndhaaDescClone
import Derived.Test.YtkhjmgedamndhaaDescCopy
import Derived.Test.YtkhjmgedamndhaaDescCopy2
import Derived.Test.YtkhjmgedamndhaaDescStore
import Derived.OwnWalk
import Derived.Maps.AppendAt
import Derived.Laws.OwnMore
import Derived.Deep.QuietTactic
import Derived.BigQuiet
import Derived.Deep.RegionHeld3
import Derived.WalkKit
import Derived.ProofKit
import Derived.OpenShut
import Derived.IntWalk
namespace Go.Proofs.Ytkhjmgedamndhaa
open Go.ChangeShapes Go.WideShapes Go.ChangeAt Go.RowKit
set_option linter.unusedVariables false
open Go.RowKit
/-- A list appended to none at all: a block of its own. -/
theorem append_nilrow {α : Type} {P : Program} (t e : TypeId) (k bytes : Nat) (z : Value) (enc : α → List Value) (hu : P.underlying t = some (.slice e)) (hinfo : (P.info? e).map (fun i => (i.zero, i.size, i.bytes)) = some (some z, k, bytes))
    (hz : z.cells.size = k) (hk : 0 < k) (hby : bytes ≤ 64) (he : ∀ x, (enc x).length = k) (hone : ∀ x, ∀ u ∈ enc x, u.oneCell' = true) {W : World} {a : Option Addr} {cap : Nat} {xs : List α} (hx : RowAt k enc W a xs) (hl : xs.length ≤ 1000000) (hp : 0 < xs.length) :
    ∃ g c W', (Builtin.append_ #[t, t] t #[.slice none 0 0, .slice a xs.length cap]).run P W = .ok (.slice (some ⟨g, 0, none⟩) xs.length c) W' ∧ OwnR k e enc W.heap.size W' (some ⟨g, 0, none⟩) xs ∧ Below W.heap.size W W' := by
  obtain ⟨i0, hi0, hz0, hz1, hz2⟩ := info_parts hinfo
  have hown : W.ownsRow W.heap.size e k (.slice none 0 0) 0 [] := ⟨by simp, .inl ⟨rfl, rfl⟩⟩
  rcases hx.2 with h | ⟨b, off, rfl, hb2, hc⟩
  · subst h; simp at hp
  have hmem : ∀ j u, (xs.flatMap enc)[j]? = some u → W.cell? ((⟨b, off, none⟩ : Addr).add j) = some u := by
    intro j u hj
    have hjl : j < xs.length * k := by rw [← flat_len he xs]; exact (List.getElem?_eq_some_iff.1 hj).1
    have hdiv : j / k < xs.length := (Nat.div_lt_iff_lt_mul hk).2 hjl
    have hmod : j % k < k := Nat.mod_lt _ hk
    have e1 : j / k * k + j % k = j := by rw [Nat.mul_comm]; exact Nat.div_add_mod j k
    have e2 := flat_get he xs (j / k) hdiv (j % k) hmod
    rw [e1, hj] at e2
    have e3 := hc (j / k) hdiv (j % k) hmod
    rw [show off + j / k * k + j % k = off + j by omega, ← e2] at e3
    by_cases h0 : j = 0 <;> simp [Addr.add, h0] at e3 ⊢ <;> exact e3
  obtain ⟨v', W', hr, h1, h2, -⟩ := run_append_own (P := P) W W.heap.size t t e i0 z k bytes hu hi0 hz0 hz1 hz2 hz hk _ 0 [] hown ⟨b, off, none⟩ xs.length cap (xs.flatMap enc) (flat_len he xs) hmem
    (fun u hu => by obtain ⟨x, _, h⟩ := List.mem_flatMap.1 hu; exact hone x u h) (by unfold maxLen; omega) (Nat.le_trans (Nat.mul_le_mul (show 0 + xs.length ≤ 1000000 by omega) hby) (by decide)) (Nat.le_refl _)
  rcases h1.2 with ⟨_, h0⟩ | ⟨g, c, cur, rfl, hg, hh, hcap, _, hsz, htk⟩
  · omega
  · refine ⟨g, c, W', by rw [hr, Nat.zero_add], ⟨by unfold maxLen; omega, .inr ⟨g, cur, rfl, hg, hh, fun i hi j hj => ?_⟩⟩, (Below.refl _ _).grown h2 (Nat.le_refl _) (fun q hq => by cases hq)⟩
    have e : (cur.toList.take ((0 + xs.length) * k))[i * k + j]? = (([] ++ xs.flatMap enc) : List Value)[i * k + j]? := by rw [htk]
    have hlt2 : i * k + j < xs.length * k := by
      have : (i + 1) * k ≤ xs.length * k := Nat.mul_le_mul (by omega) (Nat.le_refl _)
      rw [Nat.add_mul, Nat.one_mul] at this
      omega
    rw [List.getElem?_take, if_pos (by rw [Nat.zero_add]; exact hlt2), List.nil_append, flat_get he xs i hi j hj] at e
    simpa using e
/-- An append of one place to a row of the call's own, behind its one-cell block. -/
theorem append_place {W : World} {base n : Nat} {v : Value} {ys : List Value} (hown : W.ownsRow base 57 2 v n ys) (x y : Int) (hn : n + 1 ≤ 1000000) (hb : base ≤ W.heap.size) :
    ∃ v' W', (Builtin.append_ #[27, 27] 27 #[v, .slice (some ⟨W.heap.size, 0, none⟩) 1 1]).run Try.prog (W.alloc (.cells #[.int .i64 x, .int .i64 y] 57)) = .ok v' W' ∧ W'.ownsRow base 57 2 v' (n + 1) (ys ++ [.int .i64 x, .int .i64 y]) ∧
      (∀ b, b < W.heap.size → some b ≠ v.ownBlock → W'.heap[b]? = W.heap[b]?) ∧ W.heap.size ≤ W'.heap.size ∧ W'.os = W.os ∧ W'.tape = W.tape ∧ W'.output = W.output := by
  obtain ⟨i0, hi0, hz0, hz1, hz2⟩ := info_parts place_info
  obtain ⟨v', W', hr, h1, h2, -, h4⟩ := run_append_own_at (P := Try.prog) (W.alloc (.cells #[.int .i64 x, .int .i64 y] 57)) base 27 27 57 i0 (.agg #[.int .i64 0, .int .i64 0]) 2 16 Try.underlying27 hi0 hz0 hz1 hz2 rfl (by decide) v n ys (hown.alloc _) ⟨W.heap.size, 0, none⟩ 1 1 [.int .i64 x, .int .i64 y] rfl
    (fun j u hj => by
      have hj3 : j < 2 := by have := (List.getElem?_eq_some_iff.1 hj).1; simpa using this
      have e : ((⟨W.heap.size, 0, none⟩ : Addr).add j) = ⟨W.heap.size, j, none⟩ := by by_cases h0 : j = 0 <;> simp [Addr.add, h0]
      rw [e, World.cell?_alloc_at _ _ _ _ rfl]
      simpa using hj) (by intro u hu; simp at hu; rcases hu with rfl | rfl <;> rfl) (by unfold maxLen; omega) (by omega) (by simp; omega)
  refine ⟨v', W', hr, h1, fun b hb2 hne => (h2.block b (by simp; omega) hne).trans (Below.heap_alloc W _ b hb2), ?_, h2.os, h2.tape, h2.output⟩
  have := h2.size
  simp at this
  omega
theorem own_form2 {W : World} {base n sz : Nat} {t : TypeId} {v : Value} {ys : List Value} (h : W.ownsRow base t sz v n ys) : ∃ a c, v = .slice a n c := by
  rcases h.2 with ⟨rfl, rfl⟩ | ⟨q, c, cur, rfl, hq, _⟩
  · exact ⟨_, _, rfl⟩
  · exact ⟨_, _, rfl⟩
theorem own_ownR {W : World} {base : Nat} {a : Option Addr} {c : Nat} {xs : List Pl} (h : W.ownsRow base 57 2 (.slice a xs.length c) xs.length (xs.flatMap plC)) (hl : xs.length ≤ maxLen) : OwnR 2 57 plC base W a xs := by
  refine ⟨hl, ?_⟩
  rcases h.2 with ⟨h1, h2⟩ | ⟨g, c2, cur, h1, hg, hh, hcap, _, hsz, htk⟩
  · left
    simp only [Value.slice.injEq] at h1
    exact ⟨List.length_eq_zero_iff.1 h2, h1.1⟩
  · right
    simp only [Value.slice.injEq] at h1
    refine ⟨g, cur, h1.1, hg, hh, fun i hi j hj => ?_⟩
    have e : (cur.toList.take (xs.length * 2))[i * 2 + j]? = (xs.flatMap plC)[i * 2 + j]? := by rw [htk]
    rw [List.getElem?_take, if_pos (by omega), flat_get plC_len xs i hi j hj] at e
    simpa using e
/-- An append whose run is known, as one step of a region that draws its order. -/
theorem step_app {P : Program} {ops : Array Oper} {o : Oper} {a : Act} {w : World} {K : Act → World → Prop} {Q : Exit → Act → World → Prop} {E : Prop}
    (hg : o.guard = none) (s x : Operand) (t : TypeId) (hop : o.op = Op.call { callee := Callee.builtin Builtin.append, args := #[s, x], argTypes := #[t, t] })
    (v u v' : Value) (w' : World) (hs : a.eval s = v) (hx : a.eval x = u) (hrun : (Builtin.append_ #[t, t] o.type #[v, u]).run P w = .ok v' w')
    (hK : K (a.put o.dst v') w') : if Region.wanted o (yielded ops a.tmps) = true then Oper.wp P o a w K Q else E := by
  rw [if_pos (by simp [Region.wanted, hg])]
  unfold Oper.wp
  simp [execOp, hop, resolve, invoke, builtin, hs, hx, hrun, Result.andThen]
  exact hK
end Go.Proofs.Ytkhjmgedamndhaa
