/- The document's own Sum; some forms of what is known, for the law of what is kept. -/
import Derived.Test.YtgmkcddgkgcbbaaGreatHoldE
import Derived.Test.YtgmkcddgkgcbbaaGreatGiftMath5
namespace Go.Proofs.YtgmkcddgkgcbbaaGreat
open Go.ChangeShapes Go.WideShapes Go.ChangeAt Go.RowKit
open Lib (hid)
set_option linter.unusedVariables false
open Go.RowKit
theorem sum_in : ∀ l : List Int, (∀ c ∈ l, 0 ≤ c ∧ c ≤ 1073741824) → 0 ≤ l.sum ∧ l.sum ≤ l.length * 1073741824
 | [], _ => by simp
 | c :: l, h => by
   have h1 := h c (List.mem_cons_self ..)
   have h2 := sum_in l (fun d hd => h d (List.mem_cons_of_mem _ hd))
   simp only [List.sum_cons, List.length_cons]
   omega
theorem sum_take {l : List Int} {k : Nat} (hk : k < l.length) : (l.take (k + 1)).sum = (l.take k).sum + l[k] := by
 rw [List.take_succ_eq_append_getElem hk, List.sum_append]; simp
set_option maxRecDepth 100000 in
theorem refsum_any (x : Wd) (p : Wp) (w : World) (h : IntsAt w p.co x.coins) (hl : x.coins.length ≤ 6) (hc : ∀ c ∈ x.coins, 0 ≤ c ∧ c ≤ 1073741824) : Calls Tryz.prog 13 #[.agg (wC x p)] w fun e w' => e = .returned (.int .i64 x.coins.sum) ∧ Below w.heap.size w w' := by
 obtain ⟨pd, pa, pac, pk, pkc, pw, pwc⟩ := p
 simp only at h
 have H := hid h
 have HC := hid hc
 have HH := hid (Holds.new w (wC x ⟨pd, pa, pac, pk, pkc, pw, pwc⟩) 29)
 clear h hc
 have hWC := @wC.eq_1
 go_enter Tryz.func13, Tryz.ntmps13
 go_wp2_with fail
 go_loopw [3, 4] (fun s i wr => ∃ k : Nat, k ≤ x.coins.length ∧ i = .int .i64 k ∧ s = .int .i64 (x.coins.take k).sum ∧ Holds w w.heap.size (wC x ⟨pd, pa, pac, pk, pkc, pw, pwc⟩) wr) (fun _ i _ => x.coins.length - (intOf i).toNat)
 case atStart => exact ⟨0, Nat.zero_le _, rfl, by simp, HH.out⟩
 case round =>
  obtain ⟨k, hk, rfl, rfl, hh⟩ := hrel
  have HK := hid hh
  clear HH
  by_cases hlt : k < x.coins.length
  ·obtain ⟨b, o, rfl, hb, hcc⟩ := H.out.at_ hlt
   have c1 := cell_call (hcc k hlt) hh.1
   have hbw : b < wr.heap.size := by have := hh.1.size; omega
   have hcl := hh.2.2
   have hls := hh.2.1
   have hs1 := sum_in (x.coins.take k) (fun c hc => HC.out c (List.mem_of_mem_take hc))
   have hs2 := HC.out _ (List.getElem_mem hlt)
   have HS := hid (sum_take hlt)
   rw [List.length_take] at hs1
   clear hcc hb hh
   generalize x.coins[k] = y at *
   generalize (x.coins.take k).sum = s at *
   have hw1 : IntKind.i64.wrap (s + y) = s + y := IntWalk.i64_in _ (by omega)
   have hk1 : ¬ (x.coins.length : Int) ≤ (k : Int) := by omega
   have hk2 : (x.coins.length ≤ k) = False := by simp; omega
   clear hs1 hs2
   go_wp2_with fail
   go_roundw
   case rel => exact ⟨k + 1, by omega, by go_num, by rw [HS.out], HK.out⟩
   case measure => simp [intOf]; omega
  ·have hke : x.coins.length = k := by omega
   subst hke
   have hcl := hh.2.2
   have hls := hh.2.1
   clear H hh
   go_wp2_with fail
   go_ret
   exact ⟨by rw [List.take_length]; rfl, HK.out.1⟩
theorem refsum_as {x y : Wd} (hs : Shape x y) (p : Wp) (w : World) (hy : rightW y = true) (h : WorldAt w p y) : Calls Tryz.prog 13 #[.agg (wC x p)] w fun e w' => e = .returned (.int .i64 y.coins.sum) ∧ Below w.heap.size w w' := by
 have := refsum_any y p w h.co (by have := right_lens hy; omega) (right_in hy).2.1
 rwa [hs.val] at this
theorem copied_as {x y : Wd} (hs : Shape x y) (p : Wp) (w : World) (hy : rightW y = true) (h : WorldAt w p y) : Calls Tryz.prog 71 #[.agg (wC x p)] w fun e w' => ∃ q : Wp, e = .returned (.agg (wC x q)) ∧ WorldAt w' q y ∧ Below w.heap.size w w' := by
 have := copied_own3 y p w h (right_fewW9 hy)
 rw [hs.val] at this
 refine this.mono fun e w' ⟨q, he, hq, hb, _⟩ => ⟨q, by rw [← hs.val]; exact he, hq, hb⟩
end Go.Proofs.YtgmkcddgkgcbbaaGreat
