/- Two lists of integers, one behind the other, in a row of the call's own; a trade, its numbers being items' and players'. -/
import Derived.Test.YtcigbliilmonfaaRows
import Derived.Test.YtcigbliilmonfaaKit
import Derived.Test.YtcigbliilmonfaaGMem
import Derived.Test.YtcigbliilmonfaaCoin
import Derived.Test.YtcigbliilmonfaaGWorld
import Derived.Test.YtcigbliilmonfaaDescMay
import Derived.Test.YtcigbliilmonfaaGRight
import Derived.Test.YtcigbliilmonfaaGCopy
import Derived.Test.YtcigbliilmonfaaGRefD
import Derived.Test.YtcigbliilmonfaaGAs
import Derived.Test.YtcigbliilmonfaaGTreeL
import Derived.Test.YtcigbliilmonfaaGNew
import Derived.Test.YtcigbliilmonfaaGHoldA
import Derived.Test.YtcigbliilmonfaaHoldD
import Derived.Test.YtcigbliilmonfaaGiftMath
import Derived.Test.YtcigbliilmonfaaGiftMath2
import Derived.Laws.OwnMore
import Derived.OwnWalk
import Derived.Deep.QuietTactic
import Derived.BigQuiet
import Derived.WalkKit
import Derived.ProofKit
import Derived.OpenShut
import Derived.IntWalk
namespace Go.Proofs.Ytcigbliilmonfaa
open Go.ChangeShapes Go.WideShapes Go.ChangeAt Go.RowKit
set_option linter.unusedVariables false
open Go.RowKit Go
theorem gappend_ints {W : World} {base k : Nat} {v : Value} {ys : List Value} {a : Option Addr} {cap : Nat} {xs : List Int} (hown : W.ownsRow base 3 1 v k ys) (hu : IntsAt W a xs) (hl : k + xs.length ≤ 1000000) (hb : base ≤ W.heap.size) :
    ∃ v' W', (Builtin.append_ #[23, 23] 23 #[v, .slice a xs.length cap]).run Try.prog W = .ok v' W' ∧ W'.ownsRow base 3 1 v' (k + xs.length) (ys ++ xs.map (Value.int .i64)) ∧ W.grownBy W' v.ownBlock := by
  obtain ⟨i0, hi0, hz0, hz1, hz2⟩ := info_parts int_info
  obtain ⟨hm, h⟩ := hu
  by_cases hx : xs = []
  · subst hx
    have hsrc : Src Try.prog i0.size 23 (.slice a 0 cap) 0 [] W := by
      cases a with
      | none => exact Src.ofNil (w := W) Try.underlying23 cap
      | some p => exact Src.ofSlice W Try.underlying23 p 0 cap [] (by simp) (by simp) (by simp)
    have hform : ∃ b c, v = .slice b k c ∧ k ≤ c := by
      rcases hown.2 with ⟨rfl, rfl⟩ | ⟨g, c, cur, rfl, _, _, hc, _⟩
      · exact ⟨none, 0, rfl, Nat.le_refl _⟩
      · exact ⟨_, c, rfl, hc⟩
    obtain ⟨b, c, rfl, hc⟩ := hform
    exact ⟨_, W, run_append_nothing W 23 23 23 3 i0 Try.underlying23 hi0 b k c hc _ hsrc, by simpa using hown, ⟨rfl, rfl, rfl, Nat.le_refl _, fun _ _ _ => rfl⟩⟩
  · rcases h with h | ⟨b, off, rfl, hb2, hc⟩
    · exact absurd h hx
    · obtain ⟨v', W', hr, h1, h2, -⟩ := run_append_own (P := Try.prog) W base 23 23 3 i0 (.int .i64 0) 1 8 Try.underlying23 hi0 hz0 hz1 hz2 rfl (by decide) v k ys hown ⟨b, off, none⟩ xs.length cap (xs.map (Value.int .i64)) (by simp)
        (fun j u hj => by
          rw [List.getElem?_map] at hj
          cases hq : xs[j]? with
          | none => rw [hq] at hj; simp at hj
          | some x =>
            rw [hq] at hj; simp at hj; subst hj
            obtain ⟨hj2, rfl⟩ := List.getElem?_eq_some_iff.1 hq
            have := hc j hj2
            by_cases h0 : j = 0 <;> simp [Addr.add, h0] at this ⊢ <;> exact this)
        (fun u hu => by simp at hu; obtain ⟨x, _, rfl⟩ := hu; rfl) (by unfold maxLen; omega) (by omega) hb
      exact ⟨v', W', hr, h1, h2⟩
theorem gempty_ints (w : World) : (w.alloc (.cells #[] 3)).ownsRow w.heap.size 3 1 (.slice (some ⟨w.heap.size, 0, none⟩) 0 0) 0 [] :=
  ⟨rfl, .inr ⟨w.heap.size, 0, #[], rfl, Nat.le_refl _, by show (w.heap.push _)[w.heap.size]? = some _; simp, Nat.le_refl _, by unfold maxLen; omega, rfl, rfl⟩⟩
theorem gown_apart {w : World} {base : Nat} {v : Value} {k : Nat} {ys : List Value} (h : w.ownsRow base 3 1 v k ys) {g : Nat} (hg : g < base) : v.ownBlock ≠ some g := by
  rcases h.2 with ⟨rfl, h0⟩ | ⟨q, c, cur, rfl, hq, _⟩
  · simp [Value.ownBlock]
  · simp only [Value.ownBlock, ne_eq, Option.some.injEq]; omega
/-- 'append(append([]int{}, xs...), ys...)': a list of the call's own. -/
theorem append_both {W : World} {n : Nat} (hn : W.heap.size = n) {a b : Option Addr} {ca cb : Nat} {xs ys : List Int} (hu : IntsAt W a xs) (hv : IntsAt W b ys) (hx : xs.length ≤ 1000) (hy : ys.length ≤ 1000) :
    ∃ v1 W1 g c W2, (Builtin.append_ #[23, 23] 23 #[.slice (some ⟨n, 0, none⟩) 0 0, .slice a xs.length ca]).run Try.prog (W.alloc (.cells #[] 3)) = .ok v1 W1 ∧
      (Builtin.append_ #[23, 23] 23 #[v1, .slice b ys.length cb]).run Try.prog W1 = .ok (.slice g (xs ++ ys).length c) W2 ∧
      Below W.heap.size W W1 ∧ Below W.heap.size W W2 ∧ IntsAt W2 g (xs ++ ys) ∧ (∀ r, g = some r → W.heap.size ≤ r.block) := by
  subst hn
  have b0 : Below W.heap.size W (W.alloc (.cells #[] 3)) := (Below.refl _ _).alloc (Nat.le_refl _) _
  obtain ⟨v1, W1, r1, o1, g1⟩ := gappend_ints (cap := ca) (gempty_ints W) (hu.alloc (.cells #[] 3)) (by omega) b0.size
  have b1 : Below W.heap.size W W1 := b0.grown g1 b0.size (fun k hk => by simp [Value.ownBlock] at hk; omega)
  rw [Nat.zero_add, List.nil_append] at o1
  obtain ⟨v2, W2, r2, o2, g2⟩ := gappend_ints (cap := cb) o1 (hv.below b1 (Nat.le_refl _)) (by omega) b1.size
  have b2 : Below W.heap.size W W2 := b1.grown g2 b1.size (fun k hk => by
    apply Decidable.byContradiction; intro hc
    exact gown_apart o1 (g := k) (by omega) hk)
  have o3 : GrowR 1 3 inC W.heap.size W2 v2 (xs ++ ys) := by
    unfold GrowR
    have e : (xs ++ ys).flatMap inC = xs.map (Value.int .i64) ++ ys.map (Value.int .i64) := by
      rw [List.flatMap_append]
      have f : ∀ l : List Int, l.flatMap inC = l.map (Value.int .i64) := fun l => by
        induction l with
        | nil => rfl
        | cons y r ih => rw [List.flatMap_cons, ih]; rfl
      rw [f, f]
    rw [e, List.length_append]
    exact o2
  obtain ⟨g, c, rfl, ho⟩ := o3.own inC_len
  exact ⟨v1, W1, g, c, W2, r1, r2, b1, b2, ints_row.2 ho.row, fun r hr => ho.from_ hr⟩
theorem gstep_append {P : Program} {ops : Array Oper} {o : Oper} {a : Act} {w : World} {K : Act → World → Prop} {Q : Exit → Act → World → Prop} {E : Prop}
    (hg : o.guard = none) (s x : Operand) (t : TypeId) (hop : o.op = Op.call { callee := Callee.builtin Builtin.append, args := #[s, x], argTypes := #[t, t] })
    (v u v' : Value) (w' : World) (hs : a.eval s = v) (hx : a.eval x = u) (hrun : (Builtin.append_ #[t, t] o.type #[v, u]).run P w = .ok v' w')
    (hK : K (a.put o.dst v') w') : if Region.wanted o (yielded ops a.tmps) = true then Oper.wp P o a w K Q else E := by
  rw [if_pos (by simp [Region.wanted, hg])]
  unfold Oper.wp
  simp [execOp, hop, resolve, invoke, builtin, hs, hx, hrun, Result.andThen]
  exact hK
/-- A trade, when there are the player, the items. -/
def tradeN (x : Wd) (i q : Nat) (gs ws : List Nat) (pay fee : Int) : Wd × Int :=
  if q = i then (x, 12) else if ¬ roomOf x i = roomOf x q then (x, 5) else if ¬ (gs ++ ws).Nodup then (x, 13) else if (hasB x i gs && hasB x q ws) = false then (x, 5)
  else if roomI (trN x i q gs ws) ⟨1, (i : Int)⟩ < 0 ∨ roomI (trN x i q gs ws) ⟨1, (q : Int)⟩ < 0 then (x, 9)
  else if ¬ swapE (coinOf x i) (coinOf x q) pay fee = 0 then (x, swapE (coinOf x i) (coinOf x q) pay fee) else (trW x i q gs ws (coinOf x i - pay + fee) (coinOf x q - fee + pay), 0)
theorem tradeW_nat (x : Wd) (i q : Nat) (gs ws : List Nat) (pay fee : Int) (hq : q < x.at_.length) (hg : ∀ k ∈ gs, k < x.wher.length) (hw : ∀ k ∈ ws, k < x.wher.length) :
    tradeW x i q (gs.map fun (k : Nat) => (k : Int)) (ws.map fun (k : Nat) => (k : Int)) pay fee = tradeN x i q gs ws pay fee := by
  have h3 : ¬ (inB (q : Int) x.at_.length = false ∨ ((gs.map fun (k : Nat) => (k : Int)) ++ ws.map fun (k : Nat) => (k : Int)).all (fun k => inB k x.wher.length) = false) := by
    rw [← List.map_append]
    simp only [not_or, Bool.not_eq_false, List.all_map, List.all_eq_true, Function.comp_apply, inB_iff]
    refine ⟨by omega, fun n hn => ?_⟩
    rcases List.mem_append.1 hn with hn | hn
    · have := hg n hn; omega
    · have := hw n hn; omega
  have inj : ∀ a b : List Nat, (a.map fun (k : Nat) => (k : Int)) = (b.map fun (k : Nat) => (k : Int)) → a = b := fun a b h => by
    have := congrArg (List.map Int.toNat) h
    rwa [toNats, toNats] at this
  rcases trade_cases x i q (gs.map fun (k : Nat) => (k : Int)) (ws.map fun (k : Nat) => (k : Int)) pay fee with ⟨h1, e⟩ | ⟨k, gs', ws', e1, e2, e3, hk, -, -, hr⟩
  · exact absurd h1 h3
  obtain rfl : q = k := by omega
  obtain rfl := inj _ _ e2
  obtain rfl := inj _ _ e3
  unfold tradeN
  rcases hr with ⟨h, e⟩ | ⟨h, ⟨h4, e⟩ | ⟨h4, ⟨h5, e⟩ | ⟨h5, ⟨h6, e⟩ | ⟨h6, ⟨h7, e⟩ | ⟨h7, ⟨h8, e⟩ | ⟨h8, e⟩⟩⟩⟩⟩⟩
  · rw [e, if_pos h]
  · rw [e, if_neg h, if_pos h4]
  · rw [e, if_neg h, if_neg (fun c => c h4), if_pos h5]
  · rw [e, if_neg h, if_neg (fun c => c h4), if_neg (fun c => c h5), if_pos h6]
  · rw [e, if_neg h, if_neg (fun c => c h4), if_neg (fun c => c h5), if_neg (by rw [h6]; decide), if_pos h7]
  · rw [e, if_neg h, if_neg (fun c => c h4), if_neg (fun c => c h5), if_neg (by rw [h6]; decide), if_neg h7, if_pos h8]
  · rw [e, if_neg h, if_neg (fun c => c h4), if_neg (fun c => c h5), if_neg (by rw [h6]; decide), if_neg h7, if_neg (fun c => c h8)]
theorem rroom_as {x z : Wd} (hs : Shape x z) (hd : z.d = x.d) (p : Wp) (i : Nat) (w : World) (hx : rightW x = true) (h : PlsAt w p.wh z.wher) : Calls Try.prog 26 #[.agg #[.slice p.d.ex x.d.exits.length p.d.exc, .slice p.d.pl x.d.players.length p.d.plc, .slice p.d.co x.d.coins.length p.d.coc, .slice p.d.it x.d.items.length p.d.itc, .slice p.d.bo x.d.boxes.length p.d.boc, .int .i64 x.d.room, .int .i64 x.d.player, .int .i64 x.d.box, .slice p.at_ x.at_.length p.atc, .slice p.co x.coins.length p.coc, .slice p.wh x.wher.length p.whc], .agg #[.int .i64 1, .int .i64 (i : Int)]] w fun e w' => e = .returned (.int .i64 (roomI z ⟨1, (i : Int)⟩)) ∧ Below w.heap.size w w' := by
  have h := refroom_any z p 1 i (by decide) (by rw [hd]; exact cap_in hx (by decide)) w h (by rw [hs.w]; have := (right_lens hx).2.2.2.1; omega)
  rw [hs.val] at h
  exact h
end Go.Proofs.Ytcigbliilmonfaa
