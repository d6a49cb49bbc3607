/- The document's own Sum; some forms of what is known, for the law of what is kept. -/
import Derived.Test.YtcigbliilmonfaaRows
import Derived.Test.YtcigbliilmonfaaKit
import Derived.Test.YtcigbliilmonfaaGMem
import Derived.Test.YtcigbliilmonfaaCoin
import Derived.Test.YtcigbliilmonfaaGWorld
import Derived.Test.YtcigbliilmonfaaDescMay
import Derived.Test.YtcigbliilmonfaaGRight
import Derived.Test.YtcigbliilmonfaaGCopy
import Derived.Test.YtcigbliilmonfaaGRefD
import Derived.Test.YtcigbliilmonfaaGAs
import Derived.Test.YtcigbliilmonfaaGNew
import Derived.Test.YtcigbliilmonfaaGHoldA
import Derived.Test.YtcigbliilmonfaaHoldE
import Derived.Test.YtcigbliilmonfaaGiftMath
import Derived.Test.YtcigbliilmonfaaGiftMath5
import Derived.Deep.QuietTactic
import Derived.BigQuiet
import Derived.WalkKit
import Derived.ProofKit
import Derived.OpenShut
import Derived.IntWalk
namespace Go.Proofs.Ytcigbliilmonfaa
open Go.ChangeShapes Go.WideShapes Go.ChangeAt Go.RowKit
set_option linter.unusedVariables false
open Go.RowKit
theorem sum_in : ∀ l : List Int, (∀ c ∈ l, 0 ≤ c ∧ c ≤ 1073741824) → 0 ≤ l.sum ∧ l.sum ≤ l.length * 1073741824
  | [], _ => by simp
  | c :: l, h => by
    have h1 := h c (List.mem_cons_self ..)
    have h2 := sum_in l (fun d hd => h d (List.mem_cons_of_mem _ hd))
    simp only [List.sum_cons, List.length_cons]
    omega
theorem sum_take {l : List Int} {k : Nat} (hk : k < l.length) : (l.take (k + 1)).sum = (l.take k).sum + l[k] := by
  rw [List.take_succ_eq_append_getElem hk, List.sum_append]; simp
set_option maxRecDepth 100000 in
theorem refsum_any (x : Wd) (p : Wp) (w : World) (h : IntsAt w p.co x.coins) (hl : x.coins.length ≤ 6) (hc : ∀ c ∈ x.coins, 0 ≤ c ∧ c ≤ 1073741824) : Calls Try.prog 16 #[.agg #[.slice p.d.ex x.d.exits.length p.d.exc, .slice p.d.pl x.d.players.length p.d.plc, .slice p.d.co x.d.coins.length p.d.coc, .slice p.d.it x.d.items.length p.d.itc, .slice p.d.bo x.d.boxes.length p.d.boc, .int .i64 x.d.room, .int .i64 x.d.player, .int .i64 x.d.box, .slice p.at_ x.at_.length p.atc, .slice p.co x.coins.length p.coc, .slice p.wh x.wher.length p.whc]] w fun e w' => e = .returned (.int .i64 x.coins.sum) ∧ Below w.heap.size w w' := by
  obtain ⟨pd, pa, pac, pk, pkc, pw, pwc⟩ := p
  simp only at h
  have H := Lib.hid h
  have HC := Lib.hid hc
  have HH := Lib.hid (Holds.new w #[.slice pd.ex x.d.exits.length pd.exc, .slice pd.pl x.d.players.length pd.plc, .slice pd.co x.d.coins.length pd.coc, .slice pd.it x.d.items.length pd.itc, .slice pd.bo x.d.boxes.length pd.boc, .int .i64 x.d.room, .int .i64 x.d.player, .int .i64 x.d.box, .slice pa x.at_.length pac, .slice pk x.coins.length pkc, .slice pw x.wher.length pwc] 29)
  clear h hc
  go_enter Try.func16, Try.ntmps16
  go_wp2_with fail
  go_loopw [3, 4] (fun s i wr => ∃ k : Nat, k ≤ x.coins.length ∧ i = .int .i64 k ∧ s = .int .i64 (x.coins.take k).sum ∧ Holds w w.heap.size #[.slice pd.ex x.d.exits.length pd.exc, .slice pd.pl x.d.players.length pd.plc, .slice pd.co x.d.coins.length pd.coc, .slice pd.it x.d.items.length pd.itc, .slice pd.bo x.d.boxes.length pd.boc, .int .i64 x.d.room, .int .i64 x.d.player, .int .i64 x.d.box, .slice pa x.at_.length pac, .slice pk x.coins.length pkc, .slice pw x.wher.length pwc] wr) (fun _ i _ => x.coins.length - (intOf i).toNat)
  case atStart => exact ⟨0, Nat.zero_le _, rfl, by simp, HH.out⟩
  case round =>
    obtain ⟨k, hk, rfl, rfl, hh⟩ := hrel
    have HK := Lib.hid hh
    clear HH
    by_cases hlt : k < x.coins.length
    · obtain ⟨b, o, rfl, hb, hcc⟩ := H.out.at_ hlt
      have c1 := cell_call (hcc k hlt) hh.1
      have hbw : b < wr.heap.size := by have := hh.1.size; omega
      have hcl := hh.2.2
      have hls := hh.2.1
      have hs1 := sum_in (x.coins.take k) (fun c hc => HC.out c (List.mem_of_mem_take hc))
      have hs2 := HC.out _ (List.getElem_mem hlt)
      have HS := Lib.hid (sum_take hlt)
      rw [List.length_take] at hs1
      clear hcc hb hh
      generalize x.coins[k] = y at *
      generalize (x.coins.take k).sum = s at *
      have hw1 : IntKind.i64.wrap (s + y) = s + y := IntWalk.i64_in _ (by omega)
      have hk1 : ¬ (x.coins.length : Int) ≤ (k : Int) := by omega
      have hk2 : (x.coins.length ≤ k) = False := by simp; omega
      clear hs1 hs2
      go_wp2_with fail
      go_roundw
      case rel => exact ⟨k + 1, by omega, by go_num, by rw [HS.out], HK.out⟩
      case measure => simp [intOf]; omega
    · have hke : x.coins.length = k := by omega
      subst hke
      have hcl := hh.2.2
      have hls := hh.2.1
      clear H hh
      go_wp2_with fail
      go_ret
      exact ⟨by rw [List.take_length]; rfl, HK.out.1⟩
theorem refsum_as {x y : Wd} (hs : Shape x y) (p : Wp) (w : World) (hy : rightW y = true) (h : WorldAt w p y) : Calls Try.prog 16 #[.agg #[.slice p.d.ex x.d.exits.length p.d.exc, .slice p.d.pl x.d.players.length p.d.plc, .slice p.d.co x.d.coins.length p.d.coc, .slice p.d.it x.d.items.length p.d.itc, .slice p.d.bo x.d.boxes.length p.d.boc, .int .i64 x.d.room, .int .i64 x.d.player, .int .i64 x.d.box, .slice p.at_ x.at_.length p.atc, .slice p.co x.coins.length p.coc, .slice p.wh x.wher.length p.whc]] w fun e w' => e = .returned (.int .i64 y.coins.sum) ∧ Below w.heap.size w w' := by
  have := refsum_any y p w h.co (by have := right_lens hy; omega) (right_in hy).2.1
  rwa [hs.val] at this
theorem copied_as {x y : Wd} (hs : Shape x y) (p : Wp) (w : World) (hy : rightW y = true) (h : WorldAt w p y) : Calls Try.prog 18 #[.agg #[.slice p.d.ex x.d.exits.length p.d.exc, .slice p.d.pl x.d.players.length p.d.plc, .slice p.d.co x.d.coins.length p.d.coc, .slice p.d.it x.d.items.length p.d.itc, .slice p.d.bo x.d.boxes.length p.d.boc, .int .i64 x.d.room, .int .i64 x.d.player, .int .i64 x.d.box, .slice p.at_ x.at_.length p.atc, .slice p.co x.coins.length p.coc, .slice p.wh x.wher.length p.whc]] w fun e w' => ∃ q : Wp, e = .returned (.agg #[.slice q.d.ex x.d.exits.length q.d.exc, .slice q.d.pl x.d.players.length q.d.plc, .slice q.d.co x.d.coins.length q.d.coc, .slice q.d.it x.d.items.length q.d.itc, .slice q.d.bo x.d.boxes.length q.d.boc, .int .i64 x.d.room, .int .i64 x.d.player, .int .i64 x.d.box, .slice q.at_ x.at_.length q.atc, .slice q.co x.coins.length q.coc, .slice q.wh x.wher.length q.whc]) ∧ WorldAt w' q y ∧ Below w.heap.size w w' := by
  have := copied_own3 y p w h (right_fewW9 hy)
  rw [hs.val] at this
  refine this.mono fun e w' ⟨q, he, hq, hb, _⟩ => ⟨q, by rw [← hs.val]; exact he, hq, hb⟩
theorem others_len {x y : Wd} (hs : Shape x y) (p q : Wp) (L : List Nat) (M : Nat) (hM : L.length = M) (ga : Option Addr) (gc : Nat) (w : World) (hf : FewW x) (h : WorldAt w p x) (hy : WorldAt w q y) (hL : IntsAt w ga (L.map fun (k : Nat) => (k : Int))) (hl : ∀ k ∈ L, k < x.wher.length) (hl40 : M ≤ 40) (hp : putAll x y L = y) :
    Calls Try.prog 19 #[.agg #[.slice p.d.ex x.d.exits.length p.d.exc, .slice p.d.pl x.d.players.length p.d.plc, .slice p.d.co x.d.coins.length p.d.coc, .slice p.d.it x.d.items.length p.d.itc, .slice p.d.bo x.d.boxes.length p.d.boc, .int .i64 x.d.room, .int .i64 x.d.player, .int .i64 x.d.box, .slice p.at_ x.at_.length p.atc, .slice p.co x.coins.length p.coc, .slice p.wh x.wher.length p.whc], .agg #[.slice q.d.ex x.d.exits.length q.d.exc, .slice q.d.pl x.d.players.length q.d.plc, .slice q.d.co x.d.coins.length q.d.coc, .slice q.d.it x.d.items.length q.d.itc, .slice q.d.bo x.d.boxes.length q.d.boc, .int .i64 x.d.room, .int .i64 x.d.player, .int .i64 x.d.box, .slice q.at_ x.at_.length q.atc, .slice q.co x.coins.length q.coc, .slice q.wh x.wher.length q.whc], .slice ga M gc] w fun e w' => e = .returned (.bool true) ∧ Below w.heap.size w w' := by
  have := others_any x y p q L ga gc w hs hf h hy hL hl (by omega)
  rwa [hM, decide_eq_true hp] at this
end Go.Proofs.Ytcigbliilmonfaa
