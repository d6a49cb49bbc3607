import Derived.Test.YtcabeagmdfpdlaaDoorRows
import Derived.Test.YtcabeagmdfpdlaaDoorKit
import Derived.Test.YtcabeagmdfpdlaaDoorStrs
import Derived.Test.YtcabeagmdfpdlaaDoorJTab
import Derived.Test.YtcabeagmdfpdlaaDoorJBlk
import Derived.Test.YtcabeagmdfpdlaaDoorClone
import Derived.Test.YtcabeagmdfpdlaaDoorJMath
import Derived.Test.YtcabeagmdfpdlaaDoorJNum
import Derived.Test.YtcabeagmdfpdlaaDoorJTokWord
import Derived.Test.YtcabeagmdfpdlaaDoorJTokJoin
import Derived.Test.YtcabeagmdfpdlaaDoorJCut
import Derived.Test.YtcabeagmdfpdlaaDoorJTokCut
import Derived.Test.YtcabeagmdfpdlaaDoorJAppend
import Derived.Test.YtcabeagmdfpdlaaDoorJGrown
import Derived.Test.YtcabeagmdfpdlaaDoorJCmdA
import Derived.Test.YtcabeagmdfpdlaaDoorJCmdNames1
import Derived.Test.YtcabeagmdfpdlaaDoorJRepMath
import Derived.Test.YtcabeagmdfpdlaaDoorJRepItems
import Derived.Test.YtcabeagmdfpdlaaDoorJRepWords
import Derived.Test.YtcabeagmdfpdlaaDoorJRepPut
import Derived.Test.YtcabeagmdfpdlaaDoorJRepOwn
import Derived.Test.YtcabeagmdfpdlaaDoorJRepPut3
import Derived.Test.YtcabeagmdfpdlaaDoorJRepRead1
import Derived.Test.YtcabeagmdfpdlaaDoorJRead
import Derived.Test.YtcabeagmdfpdlaaDoorJRepRead4
import Derived.Test.YtcabeagmdfpdlaaDoorJRepRead5
import Derived.OwnWalk
import Derived.Laws.OwnMore
import Derived.WalkKit
import Derived.ProofKit
import Derived.OpenShut
import Derived.IntWalk
/- reply: Get: a text's answer, or that it is none's. -/
namespace Go.Proofs.YtcabeagmdfpdlaaDoor
open Go.ChangeShapes Go.WideShapes Go.ChangeAt Go.RowKit
set_option linter.unusedVariables false
open Go.RowKit Go
theorem NewI.to {n : Nat} {W : World} {a : Option Addr} {xs : List Int} (h : NewI n W a xs) : IntsAt W a xs := h.1
theorem NewS.to {n : Nat} {W : World} {a : Option Addr} {xs : List Sn} (h : NewS n W a xs) : SnsAt W a xs := h.1
theorem below_set {B : Nat} {a w : World} (h : Below B a w) {n : Nat} (hn : B ≤ n) (i : Nat) (u : Value) : Below B a (w.setCell ⟨n, i, none⟩ u) := h.setCell hn u
/-- What Get hands back. -/
def GetsR (l : List UInt8) (w : World) (e : Ending) (w' : World) : Prop :=
  ∃ r pa pc ia ic n, e = .returned (.tuple #[.agg #[.int .i64 r.err, .int .i64 r.kind, .int .i64 r.room, .slice pa r.players.length pc, .slice ia r.items.length ic, .int .i64 r.coins], .int .i64 n]) ∧ GotR l r n ∧ IntsAt w' pa r.players ∧ SnsAt w' ia r.items ∧ Below w.heap.size w w'
theorem Que.start {W0 : World} {v : Value} {ws : List (List UInt8)} (h : StrsC W0 v ws) : Que W0 (W0.alloc (.cells #[v] 57)) ws :=
  ⟨v, h, Blk.new _ _ _, (Below.refl _ _).alloc (Nat.le_refl _) _⟩
theorem cuts_small (l : List UInt8) : ∀ x ∈ cuts l, x.length ≤ l.length := by
  induction l with
  | nil => simp [cuts]
  | cons c l ih =>
    intro x hx
    rw [cuts] at hx
    split at hx
    · rcases List.mem_cons.1 hx with rfl | hx
      · simp
      · have := ih x hx; simp; omega
    · split at hx
      · simp only [List.mem_cons, List.not_mem_nil, or_false] at hx; subst hx; simp
      · rename_i h t he
        rcases List.mem_cons.1 hx with rfl | hx
        · have := ih h (by rw [he]; simp); simp; omega
        · have := ih x (by rw [he]; simp [hx]); simp; omega
theorem cuts_count (l : List UInt8) : (cuts l).length ≤ l.length + 1 := by
  induction l with
  | nil => simp [cuts]
  | cons c l ih =>
    rw [cuts]
    split
    · simp; omega
    · split
      · simp
      · rename_i h t he
        rw [he] at ih; simp at ih ⊢; omega
theorem words_small (s : ByteArray) (hs : s.size ≤ 500000) : (∀ x ∈ words s.data.toList, x.length ≤ 1000000) ∧ (words s.data.toList).length ≤ 900000 := by
  have e : s.data.toList.length = s.size := by simp
  refine ⟨fun x hx => ?_, ?_⟩
  · have := cuts_small s.data.toList x (List.mem_filter.1 hx).1
    omega
  · have h1 := cuts_count s.data.toList
    have h2 : (words s.data.toList).length ≤ (cuts s.data.toList).length := List.length_filter_le _ _
    omega
set_option maxRecDepth 100000 in
set_option maxHeartbeats 1000000 in
theorem rget_any (s : ByteArray) (w : World) (hs : s.size ≤ 500000) (ht : RTabs w) : Calls Tryd.prog 16 #[.string s] w (GetsR s.data.toList w) := by
  have HZ := Lib.hid (words_small s hs)
  have HS := Lib.hid (show s.size ≤ 1000000 by omega)
  have HT := Lib.hid ht
  have H0 := Lib.hid (show Below w.heap.size w (w.alloc (.cells #[.int .i64 0, .int .i64 0, .int .i64 0, .slice none 0 0, .slice none 0 0, .int .i64 0] 26)) from (Below.refl _ _).alloc (Nat.le_refl _) _)
  have B0 := Lib.hid (Blk.new w 26 #[.int .i64 0, .int .i64 0, .int .i64 0, .slice none 0 0, .slice none 0 0, .int .i64 0])
  have HG := Lib.hid (got_of (l := s.data.toList) (g := readR (words s.data.toList)) (read_guess s.data.toList))
  clear ht hs
  go_enter Tryd.func16, Tryd.ntmps16
  go_wp2_with fail
  refine (cut_cap s _ HS.out).mono ?_
  rintro e w1 ⟨v1, rfl, hv1, b1⟩
  have hv2 := hv1
  obtain ⟨_, a1, c1, rfl, _⟩ := hv2
  have H1 := Lib.hid (bl H0.out b1)
  have B1 := Lib.hid (B0.out.call b1)
  have QQ := Lib.hid (Que.start hv1)
  clear b1 hv1 H0 B0
  go_wp2_with fail
  refine (read_any w1 _ _ QQ.out HZ.out.1 (HT.out.call H1.out) HZ.out.2).mono ?_
  generalize readR (words s.data.toList) = g at *
  rintro e w2 ⟨pa, pc, ia, ic, rest, rfl, i1, i2, hq⟩
  have b2 : Below w1.heap.size w1 w2 := by
    obtain ⟨⟨v, _, _, hb⟩, _⟩ := hq
    exact hb
  have N1 := Lib.hid (show w.heap.size < w1.heap.size from B1.out.lt)
  have N2 := Lib.hid (show w1.heap.size ≤ w2.heap.size from b2.size)
  have H2 := Lib.hid ((bl H1.out b2).alloc (bl H1.out b2).size (.cells #[.int .i64 g.err, .int .i64 g.kind, .int .i64 g.room, .slice pa g.players.length pc, .slice ia g.items.length ic, .int .i64 g.coins] 26))
  have B2 := Lib.hid ((B1.out.call b2).alloc (.cells #[.int .i64 g.err, .int .i64 g.kind, .int .i64 g.room, .slice pa g.players.length pc, .slice ia g.items.length ic, .int .i64 g.coins] 26))
  have R2 := Lib.hid (Blk.new w2 26 #[.int .i64 g.err, .int .i64 g.kind, .int .i64 g.room, .slice pa g.players.length pc, .slice ia g.items.length ic, .int .i64 g.coins])
  have I1 := Lib.hid (show NewI w1.heap.size w2 pa g.players from i1.less (by simp))
  have I2 := Lib.hid (show NewS w1.heap.size w2 ia g.items from i2.less (by simp))
  clear b2 i1 i2 hq QQ H1 B1
  have hc := R2.out.cell
  cases hm : rmayB g
  · have HP := Lib.hid (show rputOut g = .tuple #[.string ⟨#[]⟩, .int .i64 2] by simp [rputOut, rputS, rputN, hm, str])
    have HX := Lib.hid (show GotR s.data.toList zeroR 2 by have := HG.out; rw [hm] at this; simpa using this)
    clear hm HG
    go_wp2_with fail
    refine (rput_any g pa ia pc ic _ (I1.out.1.alloc _) (I2.out.1.alloc _) (HT.out.call H2.out)).mono ?_
    rintro e w3 ⟨rfl, b3⟩
    rw [HP.out]
    have H3 := Lib.hid (bl H2.out b3)
    have B3 := Lib.hid (B2.out.call b3)
    have R3 := Lib.hid (R2.out.call b3)
    have I3 := Lib.hid (I1.out.grown (r := none) (grown_below (((Below.refl _ _).alloc (Nat.le_refl _) _).trans (b3.mono (by simp))) none) (fun k hk => by cases hk))
    have J3 := Lib.hid (I2.out.grown (r := none) (grown_below (((Below.refl _ _).alloc (Nat.le_refl _) _).trans (b3.mono (by simp))) none) (fun k hk => by cases hk))
    clear b3 hc B2 R2 I1 I2
    have hc := B3.out.cell
    have hf := B3.out.frozen
    have hl := B3.out.lt
    have hc2 := R3.out.cell
    have hf2 := R3.out.frozen
    have hl2 := R3.out.lt
    have n1 : w.heap.size ≠ w2.heap.size := by have := N1.out; have := N2.out; omega
    have n2 : w2.heap.size ≠ w.heap.size := by have := N1.out; have := N2.out; omega
    go_wp2_with fail
    refine bodyPost_ret (v := .tuple #[.agg #[.int .i64 0, .int .i64 0, .int .i64 0, .slice none 0 0, .slice none 0 0, .int .i64 0], .int .i64 2]) (by simp [results, Tryd.results16, go_sem, hc]) rfl ⟨zeroR, none, 0, none, 0, 2, rfl, HX.out, IntsAt.nil _ _, SnsAt.nil _ _, ?_⟩
    have T := H3.out
    repeat (with_reducible refine below_set ?_ (Nat.le_refl _) _ _)
    exact T
  · by_cases ht : textR g = s.data.toList
    · have HP := Lib.hid (show rputOut g = .tuple #[.string s, .int .i64 0] by simp [rputOut, rputS, rputN, hm, str, ht])
      have HX := Lib.hid (show GotR s.data.toList g 0 by have := HG.out; rw [hm, decide_eq_true ht] at this; simpa using this)
      clear hm HG ht
      go_wp2_with fail
      refine (rput_any g pa ia pc ic _ (I1.out.1.alloc _) (I2.out.1.alloc _) (HT.out.call H2.out)).mono ?_
      rintro e w3 ⟨rfl, b3⟩
      rw [HP.out]
      have H3 := Lib.hid (bl H2.out b3)
      have B3 := Lib.hid (B2.out.call b3)
      have R3 := Lib.hid (R2.out.call b3)
      have I3 := Lib.hid (I1.out.grown (r := none) (grown_below (((Below.refl _ _).alloc (Nat.le_refl _) _).trans (b3.mono (by simp))) none) (fun k hk => by cases hk))
      have J3 := Lib.hid (I2.out.grown (r := none) (grown_below (((Below.refl _ _).alloc (Nat.le_refl _) _).trans (b3.mono (by simp))) none) (fun k hk => by cases hk))
      clear b3 hc B2 R2 I1 I2
      have hc := B3.out.cell
      have hf := B3.out.frozen
      have hl := B3.out.lt
      have hc2 := R3.out.cell
      have hf2 := R3.out.frozen
      have hl2 := R3.out.lt
      have n1 : w.heap.size ≠ w2.heap.size := by have := N1.out; have := N2.out; omega
      have n2 : w2.heap.size ≠ w.heap.size := by have := N1.out; have := N2.out; omega
      go_wp2_with fail
      refine bodyPost_ret (v := .tuple #[.agg #[.int .i64 g.err, .int .i64 g.kind, .int .i64 g.room, .slice pa g.players.length pc, .slice ia g.items.length ic, .int .i64 g.coins], .int .i64 0]) (by simp [results, Tryd.results16, go_sem, hc]) rfl ⟨g, pa, pc, ia, ic, 0, rfl, HX.out, ?_, ?_, ?_⟩
      · have T := I3.out
        refine NewI.to (n := w1.heap.size) ?_
        repeat (with_reducible refine NewI.set ?_ N1.out _ _)
        exact T
      · have T := J3.out
        refine NewS.to (n := w1.heap.size) ?_
        repeat (with_reducible refine NewS.set ?_ N1.out _ _)
        exact T
      · have T := H3.out
        repeat (with_reducible refine below_set ?_ (Nat.le_refl _) _ _)
        exact T
    · obtain ⟨A, hA⟩ : ∃ A : ByteArray, A = ⟨(textR g).toArray⟩ := ⟨_, rfl⟩
      have HP := Lib.hid (show rputOut g = .tuple #[.string A, .int .i64 0] by simp [rputOut, rputS, rputN, hm, str, hA])
      have HX := Lib.hid (show GotR s.data.toList zeroR 2 by have := HG.out; rw [hm, decide_eq_false ht] at this; simpa using this)
      have q1 : (A.toList == s.toList) = false := by
        rw [beq_eq_false_iff_ne, ByteArray.toList_eq, ByteArray.toList_eq, hA]
        exact ht
      have q2 : (A.toList != s.toList) = true := by rw [bne, q1]; rfl
      clear hm HG ht hA
      go_wp2_with fail
      refine (rput_any g pa ia pc ic _ (I1.out.1.alloc _) (I2.out.1.alloc _) (HT.out.call H2.out)).mono ?_
      rintro e w3 ⟨rfl, b3⟩
      rw [HP.out]
      have H3 := Lib.hid (bl H2.out b3)
      have B3 := Lib.hid (B2.out.call b3)
      have R3 := Lib.hid (R2.out.call b3)
      have I3 := Lib.hid (I1.out.grown (r := none) (grown_below (((Below.refl _ _).alloc (Nat.le_refl _) _).trans (b3.mono (by simp))) none) (fun k hk => by cases hk))
      have J3 := Lib.hid (I2.out.grown (r := none) (grown_below (((Below.refl _ _).alloc (Nat.le_refl _) _).trans (b3.mono (by simp))) none) (fun k hk => by cases hk))
      clear b3 hc B2 R2 I1 I2
      have hc := B3.out.cell
      have hf := B3.out.frozen
      have hl := B3.out.lt
      have hc2 := R3.out.cell
      have hf2 := R3.out.frozen
      have hl2 := R3.out.lt
      have n1 : w.heap.size ≠ w2.heap.size := by have := N1.out; have := N2.out; omega
      have n2 : w2.heap.size ≠ w.heap.size := by have := N1.out; have := N2.out; omega
      go_wp2_with fail
      refine bodyPost_ret (v := .tuple #[.agg #[.int .i64 0, .int .i64 0, .int .i64 0, .slice none 0 0, .slice none 0 0, .int .i64 0], .int .i64 2]) (by simp [results, Tryd.results16, go_sem, hc]) rfl ⟨zeroR, none, 0, none, 0, 2, rfl, HX.out, IntsAt.nil _ _, SnsAt.nil _ _, ?_⟩
      have T := H3.out
      repeat (with_reducible refine below_set ?_ (Nat.le_refl _) _ _)
      exact T
end Go.Proofs.YtcabeagmdfpdlaaDoor
