import Derived.Test.YtcabeagmdfpdlaaDoorRows
import Derived.Test.YtcabeagmdfpdlaaDoorKit
import Derived.Test.YtcabeagmdfpdlaaDoorStrs
import Derived.Test.YtcabeagmdfpdlaaDoorJTab
import Derived.Test.YtcabeagmdfpdlaaDoorJBlk
import Derived.Test.YtcabeagmdfpdlaaDoorJMath
import Derived.Test.YtcabeagmdfpdlaaDoorJNum
import Derived.Test.YtcabeagmdfpdlaaDoorJTokJoin
import Derived.Test.YtcabeagmdfpdlaaDoorJCut
import Derived.Test.YtcabeagmdfpdlaaDoorJAppend
import Derived.Test.YtcabeagmdfpdlaaDoorJGrown
import Derived.Test.YtcabeagmdfpdlaaDoorJCmdA
import Derived.Test.YtcabeagmdfpdlaaDoorJCmdRefNames
import Derived.Test.YtcabeagmdfpdlaaDoorJRepMath
import Derived.Test.YtcabeagmdfpdlaaDoorJRepItems
import Derived.Test.YtcabeagmdfpdlaaDoorJRepWords
import Derived.Test.YtcabeagmdfpdlaaDoorJRepRead1
import Derived.Test.YtcabeagmdfpdlaaDoorJRead
import Derived.OwnWalk
import Derived.WalkKit
import Derived.ProofKit
import Derived.OpenShut
import Derived.IntWalk
import Derived.Test.YtcabeagmdfpdlaaDoorJRepRead4
import Derived.Test.YtcabeagmdfpdlaaDoorJRepGet
import Derived.Laws.OwnMore
import Derived.Test.YtcabeagmdfpdlaaDoorJCmdNames1
import Derived.Test.YtcabeagmdfpdlaaDoorJRepA
import Derived.Test.YtcabeagmdfpdlaaDoorJRepPut
import Derived.Test.YtcabeagmdfpdlaaDoorJRepPut3
import Derived.Test.YtcabeagmdfpdlaaDoorJRepRefMay
import Derived.Test.YtcabeagmdfpdlaaDoorJRepRefMath
import Derived.Test.YtcabeagmdfpdlaaDoorJPut
import Derived.Deep.RegionHeld3
/- An answer read of words by the document's own Get: mathematics, and its num. -/
namespace Go.Proofs.YtcabeagmdfpdlaaDoor
open Go.ChangeShapes Go.WideShapes Go.ChangeAt Go.RowKit
set_option linter.unusedVariables false
open Go.RowKit Go
def kOf (x : List UInt8) : Int := if x = [119, 105, 116, 104] then 1 else if x = [98, 111, 120] then 2 else 0
def wat (ws : List (List UInt8)) (i : Nat) : List UInt8 := ws.getD i []
/-- Items read of words, three by three. -/
def rgI : List (List UInt8) → List Sn
  | [] => []
  | [w] => [⟨(numN w : Int), 0, 0⟩]
  | [w, p] => [⟨(numN w : Int), kOf p, 0⟩]
  | w :: p :: d :: r => ⟨(numN w : Int), kOf p, (numN d : Int)⟩ :: rgI r
theorem kOf_nil : kOf [] = 0 := by decide
theorem rgI_step {ws : List (List UInt8)} (h : ws ≠ []) : rgI ws = ⟨(numN (wat ws 0) : Int), kOf (wat ws 1), (numN (wat ws 2) : Int)⟩ :: rgI (ws.drop 3) := by
  match ws, h with
  | [w], _ => simp [rgI, wat, numN_nil, kOf_nil]
  | [w, p], _ => simp [rgI, wat, numN_nil]
  | w :: p :: d :: r, _ => simp [rgI, wat]
theorem wat_drop (ws : List (List UInt8)) (i j : Nat) : wat (ws.drop i) j = wat ws (i + j) := by
  simp [wat, List.getD, List.getElem?_drop]
def refP (ws : List (List UInt8)) : List Int := ((ws.drop 3).takeWhile (· != sItems)).map fun w => (numN w : Int)
/-- By the document's own definition: the answer of a text's words. -/
def refR (ws : List (List UInt8)) : Rp :=
  if headW ws = sError then ⟨(numN (wat ws 1) : Int), 0, 0, [], [], 0⟩
  else if kindN (headW ws) = 1 ∨ kindN (headW ws) = 2 then ⟨0, kindN (headW ws), (numN (wat ws 1) : Int), [], [], 0⟩
  else if kindN (headW ws) = 9 then ⟨0, 9, (numN (wat ws 1) : Int), refP ws, rgI (ws.drop (4 + (refP ws).length)), 0⟩
  else if kindN (headW ws) = 10 then ⟨0, 10, 0, [], rgI (ws.drop 3), (numN (wat ws 1) : Int)⟩
  else ⟨0, kindN (headW ws), 0, [], [], 0⟩
theorem kOf_place {k : Int} (h : pkB k = true) : kOf (placeOf k) = k := by
  simp [pkB] at h
  obtain rfl | rfl | rfl : k = 0 ∨ k = 1 ∨ k = 2 := by omega
  all_goals decide
theorem rgI_words (is : List Sn) (h : ∀ s ∈ is, snB s = true) : rgI (is.flatMap seenW) = is := by
  induction is with
  | nil => rfl
  | cons s is ih =>
    obtain ⟨h1, h2, h3⟩ := snB_parts (h s (by simp))
    have := ih (fun x hx => h x (List.mem_cons_of_mem _ hx))
    obtain ⟨a, b, c⟩ := s
    simp only at h1 h2 h3
    simp only [List.flatMap_cons, seenW, List.cons_append, List.nil_append, rgI, this, nw_numN h2, nw_numN h3, kOf_place h1]
theorem nw_not_items {n : Int} (h : okN n = true) : (nw n != sItems) = true := by
  rw [bne_iff_ne]; intro e
  have := nw_numB h
  rw [e] at this; cases this
theorem refP_words (ps : List Int) (rest : List (List UInt8)) (h : ∀ n ∈ ps, okN n = true) : (((ps.map nw ++ sItems :: rest).takeWhile (· != sItems)).map fun w => (numN w : Int)) = ps := by
  induction ps with
  | nil => simp
  | cons n ps ih =>
    have h1 := h n (by simp)
    have := ih (fun x hx => h x (List.mem_cons_of_mem _ hx))
    simp only [List.map_cons, List.cons_append, List.takeWhile_cons, nw_not_items h1, if_true, this, nw_numN h1]
theorem ref_rwords {r : Rp} (h : Fits r) : refR (rwords r) = r := by
  have ho := h.own
  obtain ⟨e, k, m, ps, is, c⟩ := r
  by_cases he : e = 0
  · subst he
    have hk := h.kind rfl
    simp only at hk
    obtain ⟨b1, b2⟩ := kind_back hk.1 hk.2
    by_cases k12 : k = 1 ∨ k = 2
    · simp only [ownR, k12, ne_eq, not_true, if_true, if_false, Rp.mk.injEq] at ho
      obtain ⟨-, -, -, rfl, rfl, rfl⟩ := ho
      have hm := nw_numN (n := m) h.room
      simp [rwords, k12, refR, headW, wat, b1, b2, hm]
    · by_cases h9 : k = 9
      · subst h9
        simp only [ownR, ne_eq, not_true, if_true, if_false] at ho
        have hc : c = 0 := by simpa using ho
        subst hc
        have hm := nw_numN (n := m) h.room
        have hp := refP_words ps (is.flatMap seenW) h.players
        have hi := rgI_words is h.items
        have e1 : rwords ⟨0, 9, m, ps, is, 0⟩ = nameOf 9 :: nw m :: sPlayers :: (ps.map nw ++ sItems :: is.flatMap seenW) := by simp [rwords, itemsW]
        have e2 : refP (rwords ⟨0, 9, m, ps, is, 0⟩) = ps := by rw [e1]; exact hp
        have e3 : (rwords ⟨0, 9, m, ps, is, 0⟩).drop (4 + ps.length) = is.flatMap seenW := by
          rw [e1, show 4 + ps.length = ((ps.map nw).length + 1) + 1 + 1 + 1 by simp; omega]
          simp only [List.drop_succ_cons]
          rw [show ps.map nw ++ sItems :: is.flatMap seenW = (ps.map nw ++ [sItems]) ++ is.flatMap seenW by simp, List.drop_left' (by simp)]
        unfold refR
        rw [e2, e3, hi, e1]
        simp [headW, wat, b1, b2, hm]
      · by_cases h10 : k = 10
        · subst h10
          simp only [ownR, ne_eq, not_true, if_true, if_false] at ho
          have hc : m = 0 ∧ ps = [] := by simpa using ho
          obtain ⟨rfl, rfl⟩ := hc
          have hm := nw_numN (n := c) h.coins
          have hi := rgI_words is h.items
          simp [rwords, refR, headW, wat, b1, b2, hm, itemsW, hi]
        · simp only [ownR, k12, h9, h10, ne_eq, not_true, if_false, Rp.mk.injEq] at ho
          obtain ⟨-, -, rfl, rfl, rfl, rfl⟩ := ho
          simp [rwords, k12, h9, h10, refR, headW, b1, b2]
  · simp only [ownR, he, ne_eq, not_false_eq_true, if_true, Rp.mk.injEq] at ho
    obtain ⟨-, rfl, rfl, rfl, rfl, rfl⟩ := ho
    have hm := nw_numN (err_ok h)
    simp only at hm
    simp [rwords, he, refR, headW, wat, hm]
theorem ref_guess (l : List UInt8) (q : Rp) (h1 : rmayB q = true) (h2 : textR q = l) : refR (words l) = q := by
  subst h2
  rw [words_textR (fits_of h1), ref_rwords (fits_of h1)]
theorem ret_num3 {n m : Int} (h : n = m) : Ending.returned (.int .i64 n) = .returned (.int .i64 m) := by rw [h]
theorem refnum_any {a : Option Addr} {cap N : Nat} {ws : List (List UInt8)} (w : World) (i : Nat) (hN : ws.length = N) (h : Strs w (.slice a N cap) ws) (hx : ∀ x ∈ ws, x.length ≤ 1000000) (hi : i ≤ 9000000000) (hl : ws.length ≤ 900000) :
    Calls Tryd.prog 33 #[.slice a N cap, .int .i64 i] w fun e w' => e = .returned (.int .i64 (numN (wat ws i))) ∧ w = w' := by
  subst hN
  obtain ⟨a', cap', he, hm, hh⟩ := h
  simp only [Value.slice.injEq, true_and] at he
  obtain ⟨rfl, rfl⟩ := he
  by_cases hlt : i < ws.length
  · rcases hh with hh | ⟨b, off, rfl, hb, hc⟩
    · subst hh; simp at hlt
    · have h0 := hc i hlt
      have hsz : (⟨(ws[i]).toArray⟩ : ByteArray).size ≤ 9223372036854775807 := by
        show (ws[i]).toArray.size ≤ _
        rw [List.size_toArray]; have := hx _ (List.getElem_mem hlt); omega
      have HW : Hid (wat ws i = ws[i]) := Lib.hid (by simp [wat, List.getD, List.getElem?_eq_getElem hlt])
      generalize ws[i] = x at *
      unfold str at h0
      have HS := Lib.hid hsz
      clear hc hsz hm
      go_enter Tryd.func33, Tryd.ntmps33
      go_wp2_with fail
      refine (refnumber_any _ _ HS.out).mono ?_
      rintro e w2 ⟨rfl, rfl⟩
      go_wp2_with fail
      go_ret
      exact ⟨ret_num3 (by rw [HW.out]), rfl⟩
  · have HW : Hid (wat ws i = []) := Lib.hid (by simp only [wat, List.getD]; rw [List.getElem?_eq_none (by omega)]; rfl)
    clear hh hm
    go_enter Tryd.func33, Tryd.ntmps33
    go_wp2_with fail
    go_ret
    exact ⟨ret_num3 (by rw [HW.out]; rfl), rfl⟩
end Go.Proofs.YtcabeagmdfpdlaaDoor
/- The document's own Get, of texts: a round of the items' loop. -/
namespace Go.Proofs.YtcabeagmdfpdlaaDoor
open Go.ChangeShapes Go.WideShapes Go.ChangeAt Go.RowKit
set_option linter.unusedVariables false
open Go.RowKit Go
theorem append_seen_n {W : World} {m base n : Nat} {v : Value} {ys : List Value} (hm : W.heap.size = m) (hown : W.ownsRow base 46 3 v n ys) (x y z : Int) (hn : n + 1 ≤ 1000000) (hb : base ≤ W.heap.size) :
    ∃ v' W', (Builtin.append_ #[24, 24] 24 #[v, .slice (some ⟨m, 0, none⟩) 1 1]).run Tryd.prog (W.alloc (.cells #[.int .i64 x, .int .i64 y, .int .i64 z] 46)) = .ok v' W' ∧ W'.ownsRow base 46 3 v' (n + 1) (ys ++ [.int .i64 x, .int .i64 y, .int .i64 z]) ∧ W.grownBy W' v.ownBlock := by
  subst hm; exact append_seen hown x y z hn hb
theorem own_form {W : World} {base n sz : Nat} {t : TypeId} {v : Value} {ys : List Value} (h : W.ownsRow base t sz v n ys) : ∃ a c, v = .slice a n c := by
  rcases h.2 with ⟨rfl, rfl⟩ | ⟨q, c, cur, rfl, hq, _⟩
  · exact ⟨_, _, rfl⟩
  · exact ⟨_, _, rfl⟩
theorem refnum_int {a : Option Addr} {cap N : Nat} {ws : List (List UInt8)} (w : World) (n : Int) (i : Nat) (hni : n = i) (hN : ws.length = N) (h : Strs w (.slice a N cap) ws) (hx : ∀ x ∈ ws, x.length ≤ 1000000) (hi : i ≤ 9000000000) (hl : ws.length ≤ 900000) :
    Calls Tryd.prog 33 #[.slice a N cap, .int .i64 n] w fun e w' => e = .returned (.int .i64 (numN (wat ws i))) ∧ w = w' := by
  subst hni; exact refnum_any w i hN h hx hi hl
/-- What stands at the loop's head: the items so far, in a row of the call's own; the answer's block; the rest. -/
def ItInv (ws : List (List UInt8)) (N st : Nat) (CL : Value → Array Value) (w1 wb : World) (i : Value) (wr : World) : Prop :=
  ∃ (acc : List Sn) (v : Value) (j : Nat), i = .int .i64 j ∧ j = st + 3 * acc.length ∧ rgI (ws.drop st) = acc ++ rgI (ws.drop j) ∧ j ≤ N + 3 ∧ wr.ownsRow wb.heap.size 46 3 v acc.length (snC acc) ∧ Blk wr w1.heap.size 26 (CL v) ∧
    Below w1.heap.size w1 wr ∧ wb.grownBy wr (some w1.heap.size)
theorem it_start {ws : List (List UInt8)} {N st : Nat} {CL : Value → Array Value} {w1 wb : World} {n : Int} (hn : n = st) (hs : st ≤ N + 3) (hD : Blk wb w1.heap.size 26 (CL (.slice none 0 0))) (hB : Below w1.heap.size w1 wb) : ItInv ws N st CL w1 wb (.int .i64 n) wb := by
  subst hn
  exact ⟨[], .slice none 0 0, st, rfl, by simp, by simp, hs, World.ownsRow_nil _ _ _ _, hD, hB, grown_refl _ _⟩
theorem rgI_at {ws : List (List UInt8)} {N j : Nat} (hN : ws.length = N) (hj : j < N) : rgI (ws.drop j) = ⟨(numN (wat ws j) : Int), kOf (wat ws (j + 1)), (numN (wat ws (j + 2)) : Int)⟩ :: rgI (ws.drop (j + 3)) := by
  rw [rgI_step (by intro e; have := congrArg List.length e; simp at this; omega), wat_drop, wat_drop, wat_drop, List.drop_drop, Nat.add_zero]
theorem rgI_end {ws : List (List UInt8)} {N j : Nat} (hN : ws.length = N) (hj : ¬ j < N) : rgI (ws.drop j) = [] := by
  rw [List.drop_eq_nil_of_le (by omega)]; rfl
section
variable {ws : List (List UInt8)} {N st j g : Nat} {CL : Value → Array Value} {w1 wb wr W3 : World} {acc : List Sn} {v v3 : Value} {x k z : Int} {T : Obj}
theorem seen_block (hR : wr.ownsRow wb.heap.size 46 3 v acc.length (snC acc)) (hD : Blk wr w1.heap.size 26 (CL v)) (hg : (wr.alloc T).grownBy W3 v.ownBlock) (hL : w1.heap.size < wb.heap.size) : Blk W3 w1.heap.size 26 (CL v) :=
  (hD.alloc T).grow hg (fun e => own_apart hR (g := w1.heap.size) hL e.symm)
theorem seen_round (hj : j = st + 3 * acc.length) (hE : rgI (ws.drop st) = acc ++ rgI (ws.drop j)) (hR : wr.ownsRow wb.heap.size 46 3 v acc.length (snC acc)) (hD : Blk wr w1.heap.size 26 (CL v)) (hB : Below w1.heap.size w1 wr) (hG : wb.grownBy wr (some w1.heap.size)) (hL : w1.heap.size < wb.heap.size)
    (hw : W3.ownsRow wb.heap.size 46 3 v3 (acc.length + 1) (snC acc ++ [.int .i64 x, .int .i64 k, .int .i64 z])) (hg : (wr.alloc T).grownBy W3 v.ownBlock) (hC : (CL v).setIfInBounds 4 v3 = CL v3) (hlt : j < N)
    (hS : rgI (ws.drop j) = ⟨x, k, z⟩ :: rgI (ws.drop (j + 3))) {n : Int} (hn : n = (j : Int) + 3) : ItInv ws N st CL w1 wb (.int .i64 n) (W3.setCell ⟨w1.heap.size, 4, none⟩ v3) := by
  have hD3 := seen_block hR hD hg hL
  refine ⟨acc ++ [⟨x, k, z⟩], v3, j + 3, by rw [hn]; rfl, by rw [hj]; simp; omega, by rw [hE, hS]; simp, by omega, ?_, ?_, ?_, ?_⟩
  · rw [snC_snoc, List.length_append]
    exact hw.kept (row := some w1.heap.size) (grown_set W3 w1.heap.size 4 v3) (.inr (own_apart hw hL))
  · have := hD3.set_ 4 v3
    rwa [hC] at this
  · have h1 : Below w1.heap.size w1 (wr.alloc T) := hB.alloc hB.size T
    have h2 : Below w1.heap.size w1 W3 := h1.grown hg h1.size (fun q hq => Nat.le_of_lt (own_lt_all hR hL q hq))
    exact below_set h2 (Nat.le_refl _) 4 v3
  · have h1 : wb.grownBy (wr.alloc T) (some w1.heap.size) := grown_trans hG (World.grownBy_alloc wr T (some w1.heap.size)) (.inl rfl)
    exact grown_trans (grown_own h1 hg (hR.alloc T) (Nat.le_refl _)) (grown_set W3 w1.heap.size 4 v3) (.inl rfl)
end
/-! ### the players' loop -/
def plOf (l : List (List UInt8)) : List Int := (l.takeWhile (· != sItems)).map fun w => (numN w : Int)
/-- What stands at the players' loop's head. -/
def PlInv (ws : List (List UInt8)) (N : Nat) (CL : Value → Array Value) (w1 wc : World) (i : Value) (wr : World) : Prop :=
  ∃ (acc : List Int) (v : Value) (j : Nat), i = .int .i64 j ∧ j = 3 + acc.length ∧ refP ws = acc ++ plOf (ws.drop j) ∧ j ≤ N + 2 ∧ wr.ownsRow wc.heap.size 3 1 v acc.length (acc.map (Value.int .i64)) ∧ Blk wr w1.heap.size 26 (CL v) ∧
    Below w1.heap.size w1 wr ∧ wc.heap.size ≤ wr.heap.size
theorem pl_start {ws : List (List UInt8)} {N : Nat} {CL : Value → Array Value} {w1 wc : World} (hs : 0 < N) (hD : Blk wc w1.heap.size 26 (CL (.slice none 0 0))) (hB : Below w1.heap.size w1 wc) : PlInv ws N CL w1 wc (.int .i64 3) wc :=
  ⟨[], .slice none 0 0, 3, rfl, rfl, rfl, by omega, World.ownsRow_nil _ _ _ _, hD, hB, Nat.le_refl _⟩
theorem pl_at {ws : List (List UInt8)} {N j : Nat} (hN : ws.length = N) (hj : j < N) (hy : ¬ wat ws j = sItems) : plOf (ws.drop j) = (numN (wat ws j) : Int) :: plOf (ws.drop (j + 1)) := by
  have h : j < ws.length := by omega
  have e : wat ws j = ws[j] := by simp [wat, List.getD, List.getElem?_eq_getElem h]
  rw [e] at hy ⊢
  rw [List.drop_eq_getElem_cons h, plOf, List.takeWhile_cons, if_pos (by rw [bne_iff_ne]; exact hy)]
  rfl
theorem pl_stop {ws : List (List UInt8)} {N j : Nat} (hN : ws.length = N) (hj : j < N) (hy : wat ws j = sItems) : plOf (ws.drop j) = [] := by
  have h : j < ws.length := by omega
  have e : wat ws j = ws[j] := by simp [wat, List.getD, List.getElem?_eq_getElem h]
  rw [e] at hy
  rw [List.drop_eq_getElem_cons h, plOf, List.takeWhile_cons, if_neg (by rw [hy]; decide)]
  rfl
theorem pl_end {ws : List (List UInt8)} {N j : Nat} (hN : ws.length = N) (hj : ¬ j < N) : plOf (ws.drop j) = [] := by
  rw [List.drop_eq_nil_of_le (by omega)]; rfl
section
variable {ws : List (List UInt8)} {N j : Nat} {CL : Value → Array Value} {w1 wc wr W3 : World} {acc : List Int} {v v3 : Value} {x : Int}
theorem pl_block (hR : wr.ownsRow wc.heap.size 3 1 v acc.length (acc.map (Value.int .i64))) (hD : Blk wr w1.heap.size 26 (CL v)) (hg : wr.drew.grownBy W3 v.ownBlock) (hL : w1.heap.size < wc.heap.size) : Blk W3 w1.heap.size 26 (CL v) :=
  Blk.grow (W := wr.drew) hD hg (fun e => own_apart hR (g := w1.heap.size) hL e.symm)
theorem pl_round (hj : j = 3 + acc.length) (hE : refP ws = acc ++ plOf (ws.drop j)) (hR : wr.ownsRow wc.heap.size 3 1 v acc.length (acc.map (Value.int .i64))) (hD : Blk wr w1.heap.size 26 (CL v)) (hB : Below w1.heap.size w1 wr) (hG : wc.heap.size ≤ wr.heap.size) (hL : w1.heap.size < wc.heap.size)
    (hw : W3.ownsRow wc.heap.size 3 1 v3 (acc.length + 1) (acc.map (Value.int .i64) ++ [.int .i64 x])) (hg : wr.drew.grownBy W3 v.ownBlock) (hC : (CL v).setIfInBounds 3 v3 = CL v3) (hlt : j < N)
    (hS : plOf (ws.drop j) = x :: plOf (ws.drop (j + 1))) {n : Int} (hn : n = (j : Int) + 1) : PlInv ws N CL w1 wc (.int .i64 n) (W3.setCell ⟨w1.heap.size, 3, none⟩ v3) := by
  have hD3 := pl_block hR hD hg hL
  refine ⟨acc ++ [x], v3, j + 1, by rw [hn]; rfl, by rw [hj]; simp; omega, by rw [hE, hS]; simp, by omega, ?_, ?_, ?_, ?_⟩
  · have h1 := hw.kept (row := some w1.heap.size) (grown_set W3 w1.heap.size 3 v3) (.inr (own_apart hw hL))
    simpa using h1
  · have := hD3.set_ 3 v3
    rwa [hC] at this
  · have h1 : Below w1.heap.size w1 wr.drew := ⟨hB.os, hB.tape, hB.output, hB.size, hB.block⟩
    have h2 : Below w1.heap.size w1 W3 := h1.grown hg h1.size (fun q hq => Nat.le_of_lt (own_lt_all hR hL q hq))
    exact below_set h2 (Nat.le_refl _) 3 v3
  · have := hg.size
    simp [World.setCell] at this ⊢
    exact Nat.le_trans hG this
end
end Go.Proofs.YtcabeagmdfpdlaaDoor
/- The document's own Get, of texts: no words, an error, move and push, the rest. -/
namespace Go.Proofs.YtcabeagmdfpdlaaDoor
open Go.ChangeShapes Go.WideShapes Go.ChangeAt Go.RowKit
set_option linter.unusedVariables false
open Go.RowKit Go
theorem strs_grown {W W' : World} {v : Value} {xs : List (List UInt8)} {g : Nat} (h : Strs W v xs) (hg : W.grownBy W' (some g)) (hn : W.heap.size ≤ g) : Strs W' v xs := by
  obtain ⟨a, cap, rfl, hl, h⟩ := h
  refine ⟨a, cap, rfl, hl, ?_⟩
  rcases h with h | ⟨b, off, rfl, hb2, hc⟩
  · exact .inl h
  · exact .inr ⟨b, off, rfl, by have := hg.size; omega, fun i hi => hg.cell (hc i hi) (by simp only [ne_eq, Option.some.injEq]; omega)⟩
section
variable (s : ByteArray) (w : World) (hs : s.size ≤ 500000)
include hs
set_option maxRecDepth 100000 in
set_option maxHeartbeats 2000000 in
theorem refget_nil (hw : words s.data.toList = []) :
    Calls Tryd.prog 17 #[.string s] w (GetsR s.data.toList w) := by
  have HZ := Lib.hid (words_small s hs)
  have HG := Lib.hid (got_of (l := s.data.toList) (g := refR (words s.data.toList)) (ref_guess s.data.toList))
  have HS := Lib.hid (show s.size ≤ 1000000 by omega)
  have B0 := Lib.hid (Blk.new w 26 #[.int .i64 0, .int .i64 0, .int .i64 0, .slice none 0 0, .slice none 0 0, .int .i64 0])
  have H0 := Lib.hid (show Below w.heap.size w (w.alloc (.cells #[.int .i64 0, .int .i64 0, .int .i64 0, .slice none 0 0, .slice none 0 0, .int .i64 0] 26)) from (Below.refl _ _).alloc (Nat.le_refl _) _)
  clear hs
  go_enter Tryd.func17, Tryd.ntmps17
  go_wp2_with fail
  refine (refcut_any s _ HS.out).mono ?_
  rintro e w1 ⟨v1, rfl, hv1, b1⟩
  have H1 := Lib.hid (bl H0.out b1)
  have B1 := Lib.hid (B0.out.call b1)
  have N1 := Lib.hid (show w.heap.size < w1.heap.size from B1.out.lt)
  generalize words s.data.toList = ws at *
  clear b1 B0 H0
  subst hw
  obtain ⟨a1, c1, rfl, -, -⟩ := hv1
  rw [show refR [] = ⟨0, 0, 0, [], [], 0⟩ from rfl] at HG
  have BL9 := Lib.hid (H1.out.alloc H1.out.size (.cells #[.int .i64 0, .int .i64 0, .int .i64 0, .slice none 0 0, .slice none 0 0, .int .i64 0] 26))
  have BZ9 := Lib.hid (B1.out.alloc (.cells #[.int .i64 0, .int .i64 0, .int .i64 0, .slice none 0 0, .slice none 0 0, .int .i64 0] 26))
  have DG := Lib.hid (Blk.new w1 26 #[.int .i64 0, .int .i64 0, .int .i64 0, .slice none 0 0, .slice none 0 0, .int .i64 0])
  have I9 := Lib.hid (NewI.nil w1.heap.size (w1.alloc (.cells #[.int .i64 0, .int .i64 0, .int .i64 0, .slice none 0 0, .slice none 0 0, .int .i64 0] 26)))
  have J9 := Lib.hid (NewS.nil w1.heap.size (w1.alloc (.cells #[.int .i64 0, .int .i64 0, .int .i64 0, .slice none 0 0, .slice none 0 0, .int .i64 0] 26)))
  go_wp2_with fail
  cases hm : rmayB (⟨0, 0, 0, [], [], 0⟩)
  · have HP := Lib.hid (show rputOut (⟨0, 0, 0, [], [], 0⟩) = .tuple #[.string ⟨#[]⟩, .int .i64 2] by simp [rputOut, rputS, rputN, hm, str])
    have HX := Lib.hid (show GotR s.data.toList zeroR 2 by have := HG.out; rw [hm] at this; simpa using this)
    clear hm HG
    refine (rrefput_any (⟨0, 0, 0, [], [], 0⟩) none none 0 0 _ I9.out.1 J9.out.1).mono ?_
    rintro e w30 ⟨rfl, b3⟩
    rw [HP.out]
    have H3 := Lib.hid (bl BL9.out b3)
    have B3 := Lib.hid (BZ9.out.call b3)
    have R3 := Lib.hid (DG.out.call b3)
    have I3 := Lib.hid (I9.out.grown (r := none) (grown_below b3 none) (fun k hk => by cases hk))
    have J3 := Lib.hid (J9.out.grown (r := none) (grown_below b3 none) (fun k hk => by cases hk))
    clear b3 BZ9 DG I9 J9 BL9
    have hc := B3.out.cell
    have hf := B3.out.frozen
    have hl := B3.out.lt
    have hc2 := R3.out.cell
    have hf2 := R3.out.frozen
    have hl2 := R3.out.lt
    have n1 : w.heap.size ≠ w1.heap.size := Nat.ne_of_lt N1.out
    have n2 : w1.heap.size ≠ w.heap.size := Nat.ne_of_gt N1.out
    go_wp2_with fail
    refine bodyPost_ret (v := .tuple #[.agg #[.int .i64 0, .int .i64 0, .int .i64 0, .slice none 0 0, .slice none 0 0, .int .i64 0], .int .i64 2]) (by simp [results, Tryd.results17, go_sem, hc]) rfl ⟨zeroR, none, 0, none, 0, 2, rfl, HX.out, IntsAt.nil _ _, SnsAt.nil _ _, ?_⟩
    have T := H3.out
    repeat (with_reducible refine below_set ?_ (Nat.le_refl _) _ _)
    exact T
  · by_cases ht : textR (⟨0, 0, 0, [], [], 0⟩) = s.data.toList
    · have HP := Lib.hid (show rputOut (⟨0, 0, 0, [], [], 0⟩) = .tuple #[.string s, .int .i64 0] by simp [rputOut, rputS, rputN, hm, str, ht])
      have HX := Lib.hid (show GotR s.data.toList (⟨0, 0, 0, [], [], 0⟩) 0 by have := HG.out; rw [hm, decide_eq_true ht] at this; simpa using this)
      clear hm HG ht
      refine (rrefput_any (⟨0, 0, 0, [], [], 0⟩) none none 0 0 _ I9.out.1 J9.out.1).mono ?_
      rintro e w30 ⟨rfl, b3⟩
      rw [HP.out]
      have H3 := Lib.hid (bl BL9.out b3)
      have B3 := Lib.hid (BZ9.out.call b3)
      have R3 := Lib.hid (DG.out.call b3)
      have I3 := Lib.hid (I9.out.grown (r := none) (grown_below b3 none) (fun k hk => by cases hk))
      have J3 := Lib.hid (J9.out.grown (r := none) (grown_below b3 none) (fun k hk => by cases hk))
      clear b3 BZ9 DG I9 J9 BL9
      have hc := B3.out.cell
      have hf := B3.out.frozen
      have hl := B3.out.lt
      have hc2 := R3.out.cell
      have hf2 := R3.out.frozen
      have hl2 := R3.out.lt
      have n1 : w.heap.size ≠ w1.heap.size := Nat.ne_of_lt N1.out
      have n2 : w1.heap.size ≠ w.heap.size := Nat.ne_of_gt N1.out
      go_wp2_with fail
      refine bodyPost_ret (v := .tuple #[.agg #[.int .i64 0, .int .i64 0, .int .i64 0, .slice none 0 0, .slice none 0 0, .int .i64 0], .int .i64 0]) (by simp [results, Tryd.results17, go_sem, hc]) rfl ⟨⟨0, 0, 0, [], [], 0⟩, none, 0, none, 0, 0, rfl, HX.out, ?_, ?_, ?_⟩
      · have T := I3.out
        refine NewI.to (n := w1.heap.size) ?_
        repeat (with_reducible refine NewI.set ?_ N1.out _ _)
        exact T
      · have T := J3.out
        refine NewS.to (n := w1.heap.size) ?_
        repeat (with_reducible refine NewS.set ?_ N1.out _ _)
        exact T
      · have T := H3.out
        repeat (with_reducible refine below_set ?_ (Nat.le_refl _) _ _)
        exact T
    · obtain ⟨A, hA⟩ : ∃ A : ByteArray, A = ⟨(textR (⟨0, 0, 0, [], [], 0⟩)).toArray⟩ := ⟨_, rfl⟩
      have HP := Lib.hid (show rputOut (⟨0, 0, 0, [], [], 0⟩) = .tuple #[.string A, .int .i64 0] by simp [rputOut, rputS, rputN, hm, str, hA])
      have HX := Lib.hid (show GotR s.data.toList zeroR 2 by have := HG.out; rw [hm, decide_eq_false ht] at this; simpa using this)
      have q1 : (A.toList == s.toList) = false := by
        rw [beq_eq_false_iff_ne, ByteArray.toList_eq, ByteArray.toList_eq, hA]
        exact ht
      have q2 : (A.toList != s.toList) = true := by rw [bne, q1]; rfl
      clear hm HG ht hA
      refine (rrefput_any (⟨0, 0, 0, [], [], 0⟩) none none 0 0 _ I9.out.1 J9.out.1).mono ?_
      rintro e w30 ⟨rfl, b3⟩
      rw [HP.out]
      have H3 := Lib.hid (bl BL9.out b3)
      have B3 := Lib.hid (BZ9.out.call b3)
      have R3 := Lib.hid (DG.out.call b3)
      have I3 := Lib.hid (I9.out.grown (r := none) (grown_below b3 none) (fun k hk => by cases hk))
      have J3 := Lib.hid (J9.out.grown (r := none) (grown_below b3 none) (fun k hk => by cases hk))
      clear b3 BZ9 DG I9 J9 BL9
      have hc := B3.out.cell
      have hf := B3.out.frozen
      have hl := B3.out.lt
      have hc2 := R3.out.cell
      have hf2 := R3.out.frozen
      have hl2 := R3.out.lt
      have n1 : w.heap.size ≠ w1.heap.size := Nat.ne_of_lt N1.out
      have n2 : w1.heap.size ≠ w.heap.size := Nat.ne_of_gt N1.out
      go_wp2_with fail
      refine bodyPost_ret (v := .tuple #[.agg #[.int .i64 0, .int .i64 0, .int .i64 0, .slice none 0 0, .slice none 0 0, .int .i64 0], .int .i64 2]) (by simp [results, Tryd.results17, go_sem, hc]) rfl ⟨zeroR, none, 0, none, 0, 2, rfl, HX.out, IntsAt.nil _ _, SnsAt.nil _ _, ?_⟩
      have T := H3.out
      repeat (with_reducible refine below_set ?_ (Nat.le_refl _) _ _)
      exact T
set_option maxRecDepth 100000 in
set_option maxHeartbeats 2000000 in
theorem refget_err (hne : words s.data.toList ≠ []) (hw : headW (words s.data.toList) = sError) :
    Calls Tryd.prog 17 #[.string s] w (GetsR s.data.toList w) := by
  have HZ := Lib.hid (words_small s hs)
  have HG := Lib.hid (got_of (l := s.data.toList) (g := refR (words s.data.toList)) (ref_guess s.data.toList))
  have HS := Lib.hid (show s.size ≤ 1000000 by omega)
  have B0 := Lib.hid (Blk.new w 26 #[.int .i64 0, .int .i64 0, .int .i64 0, .slice none 0 0, .slice none 0 0, .int .i64 0])
  have H0 := Lib.hid (show Below w.heap.size w (w.alloc (.cells #[.int .i64 0, .int .i64 0, .int .i64 0, .slice none 0 0, .slice none 0 0, .int .i64 0] 26)) from (Below.refl _ _).alloc (Nat.le_refl _) _)
  clear hs
  go_enter Tryd.func17, Tryd.ntmps17
  go_wp2_with fail
  refine (refcut_any s _ HS.out).mono ?_
  rintro e w1 ⟨v1, rfl, hv1, b1⟩
  have H1 := Lib.hid (bl H0.out b1)
  have B1 := Lib.hid (B0.out.call b1)
  have N1 := Lib.hid (show w.heap.size < w1.heap.size from B1.out.lt)
  generalize words s.data.toList = ws at *
  clear b1 B0 H0
  obtain ⟨N, hN⟩ : ∃ N, ws.length = N := ⟨_, rfl⟩
  have HN := Lib.hid hN
  have SV := Lib.hid hv1
  obtain ⟨a1, c1, rfl, hl1, hh⟩ := hv1
  rw [hN]
  have hpos : 0 < N := by rw [← hN]; exact List.length_pos_iff.2 hne
  have hN2 : N ≤ 900000 := by have := HZ.out.2; omega
  obtain ⟨b, off, rfl, hb, hcell⟩ : ∃ b off, a1 = some ⟨b, off, none⟩ ∧ b < w1.heap.size ∧ ∀ i (hi : i < ws.length), w1.cell? ⟨b, off + i, none⟩ = some (str ws[i]) := by
    rcases hh with hh | hh
    · exact absurd hh hne
    · exact hh
  have h0 := hcell 0 (by omega)
  rw [show ws[0] = headW ws from by cases ws with | nil => exact absurd rfl hne | cons x r => rfl, Nat.add_zero] at h0
  unfold str at h0
  have HC := Lib.hid hcell
  have SV2 := Lib.hid (show Strs w1 (.slice (some ⟨b, off, none⟩) N c1) ws from by have h := SV.out; rw [hN] at h; exact h)
  clear SV hh hcell hl1 hN hne
  rw [show refR ws = ⟨(numN (wat ws 1) : Int), 0, 0, [], [], 0⟩ by unfold refR; rw [if_pos hw]] at HG
  rw [hw] at h0
  unfold sError at h0
  have BL9 := Lib.hid (H1.out.alloc H1.out.size (.cells #[.int .i64 (numN (wat ws 1)), .int .i64 0, .int .i64 0, .slice none 0 0, .slice none 0 0, .int .i64 0] 26))
  have BZ9 := Lib.hid (B1.out.alloc (.cells #[.int .i64 (numN (wat ws 1)), .int .i64 0, .int .i64 0, .slice none 0 0, .slice none 0 0, .int .i64 0] 26))
  have DG := Lib.hid (Blk.new w1 26 #[.int .i64 (numN (wat ws 1)), .int .i64 0, .int .i64 0, .slice none 0 0, .slice none 0 0, .int .i64 0])
  have I9 := Lib.hid (NewI.nil w1.heap.size (w1.alloc (.cells #[.int .i64 (numN (wat ws 1)), .int .i64 0, .int .i64 0, .slice none 0 0, .slice none 0 0, .int .i64 0] 26)))
  have J9 := Lib.hid (NewS.nil w1.heap.size (w1.alloc (.cells #[.int .i64 (numN (wat ws 1)), .int .i64 0, .int .i64 0, .slice none 0 0, .slice none 0 0, .int .i64 0] 26)))
  clear hw
  go_wp2_with fail
  refine (refnum_any _ 1 HN.out (SV2.out.below ((Below.refl _ _).alloc (Nat.le_refl _) _)) HZ.out.1 (by decide) HZ.out.2).mono ?_
  rintro e w2 ⟨rfl, rfl⟩
  clear h0
  generalize (numN (wat ws 1) : Int) = M at *
  go_wp2_with fail
  cases hm : rmayB (⟨M, 0, 0, [], [], 0⟩)
  · have HP := Lib.hid (show rputOut (⟨M, 0, 0, [], [], 0⟩) = .tuple #[.string ⟨#[]⟩, .int .i64 2] by simp [rputOut, rputS, rputN, hm, str])
    have HX := Lib.hid (show GotR s.data.toList zeroR 2 by have := HG.out; rw [hm] at this; simpa using this)
    clear hm HG
    refine (rrefput_any (⟨M, 0, 0, [], [], 0⟩) none none 0 0 _ I9.out.1 J9.out.1).mono ?_
    rintro e w30 ⟨rfl, b3⟩
    rw [HP.out]
    have H3 := Lib.hid (bl BL9.out b3)
    have B3 := Lib.hid (BZ9.out.call b3)
    have R3 := Lib.hid (DG.out.call b3)
    have I3 := Lib.hid (I9.out.grown (r := none) (grown_below b3 none) (fun k hk => by cases hk))
    have J3 := Lib.hid (J9.out.grown (r := none) (grown_below b3 none) (fun k hk => by cases hk))
    clear b3 BZ9 DG I9 J9 BL9
    have hc := B3.out.cell
    have hf := B3.out.frozen
    have hl := B3.out.lt
    have hc2 := R3.out.cell
    have hf2 := R3.out.frozen
    have hl2 := R3.out.lt
    have n1 : w.heap.size ≠ w1.heap.size := Nat.ne_of_lt N1.out
    have n2 : w1.heap.size ≠ w.heap.size := Nat.ne_of_gt N1.out
    go_wp2_with fail
    refine bodyPost_ret (v := .tuple #[.agg #[.int .i64 0, .int .i64 0, .int .i64 0, .slice none 0 0, .slice none 0 0, .int .i64 0], .int .i64 2]) (by simp [results, Tryd.results17, go_sem, hc]) rfl ⟨zeroR, none, 0, none, 0, 2, rfl, HX.out, IntsAt.nil _ _, SnsAt.nil _ _, ?_⟩
    have T := H3.out
    repeat (with_reducible refine below_set ?_ (Nat.le_refl _) _ _)
    exact T
  · by_cases ht : textR (⟨M, 0, 0, [], [], 0⟩) = s.data.toList
    · have HP := Lib.hid (show rputOut (⟨M, 0, 0, [], [], 0⟩) = .tuple #[.string s, .int .i64 0] by simp [rputOut, rputS, rputN, hm, str, ht])
      have HX := Lib.hid (show GotR s.data.toList (⟨M, 0, 0, [], [], 0⟩) 0 by have := HG.out; rw [hm, decide_eq_true ht] at this; simpa using this)
      clear hm HG ht
      refine (rrefput_any (⟨M, 0, 0, [], [], 0⟩) none none 0 0 _ I9.out.1 J9.out.1).mono ?_
      rintro e w30 ⟨rfl, b3⟩
      rw [HP.out]
      have H3 := Lib.hid (bl BL9.out b3)
      have B3 := Lib.hid (BZ9.out.call b3)
      have R3 := Lib.hid (DG.out.call b3)
      have I3 := Lib.hid (I9.out.grown (r := none) (grown_below b3 none) (fun k hk => by cases hk))
      have J3 := Lib.hid (J9.out.grown (r := none) (grown_below b3 none) (fun k hk => by cases hk))
      clear b3 BZ9 DG I9 J9 BL9
      have hc := B3.out.cell
      have hf := B3.out.frozen
      have hl := B3.out.lt
      have hc2 := R3.out.cell
      have hf2 := R3.out.frozen
      have hl2 := R3.out.lt
      have n1 : w.heap.size ≠ w1.heap.size := Nat.ne_of_lt N1.out
      have n2 : w1.heap.size ≠ w.heap.size := Nat.ne_of_gt N1.out
      go_wp2_with fail
      refine bodyPost_ret (v := .tuple #[.agg #[.int .i64 M, .int .i64 0, .int .i64 0, .slice none 0 0, .slice none 0 0, .int .i64 0], .int .i64 0]) (by simp [results, Tryd.results17, go_sem, hc]) rfl ⟨⟨M, 0, 0, [], [], 0⟩, none, 0, none, 0, 0, rfl, HX.out, ?_, ?_, ?_⟩
      · have T := I3.out
        refine NewI.to (n := w1.heap.size) ?_
        repeat (with_reducible refine NewI.set ?_ N1.out _ _)
        exact T
      · have T := J3.out
        refine NewS.to (n := w1.heap.size) ?_
        repeat (with_reducible refine NewS.set ?_ N1.out _ _)
        exact T
      · have T := H3.out
        repeat (with_reducible refine below_set ?_ (Nat.le_refl _) _ _)
        exact T
    · obtain ⟨A, hA⟩ : ∃ A : ByteArray, A = ⟨(textR (⟨M, 0, 0, [], [], 0⟩)).toArray⟩ := ⟨_, rfl⟩
      have HP := Lib.hid (show rputOut (⟨M, 0, 0, [], [], 0⟩) = .tuple #[.string A, .int .i64 0] by simp [rputOut, rputS, rputN, hm, str, hA])
      have HX := Lib.hid (show GotR s.data.toList zeroR 2 by have := HG.out; rw [hm, decide_eq_false ht] at this; simpa using this)
      have q1 : (A.toList == s.toList) = false := by
        rw [beq_eq_false_iff_ne, ByteArray.toList_eq, ByteArray.toList_eq, hA]
        exact ht
      have q2 : (A.toList != s.toList) = true := by rw [bne, q1]; rfl
      clear hm HG ht hA
      refine (rrefput_any (⟨M, 0, 0, [], [], 0⟩) none none 0 0 _ I9.out.1 J9.out.1).mono ?_
      rintro e w30 ⟨rfl, b3⟩
      rw [HP.out]
      have H3 := Lib.hid (bl BL9.out b3)
      have B3 := Lib.hid (BZ9.out.call b3)
      have R3 := Lib.hid (DG.out.call b3)
      have I3 := Lib.hid (I9.out.grown (r := none) (grown_below b3 none) (fun k hk => by cases hk))
      have J3 := Lib.hid (J9.out.grown (r := none) (grown_below b3 none) (fun k hk => by cases hk))
      clear b3 BZ9 DG I9 J9 BL9
      have hc := B3.out.cell
      have hf := B3.out.frozen
      have hl := B3.out.lt
      have hc2 := R3.out.cell
      have hf2 := R3.out.frozen
      have hl2 := R3.out.lt
      have n1 : w.heap.size ≠ w1.heap.size := Nat.ne_of_lt N1.out
      have n2 : w1.heap.size ≠ w.heap.size := Nat.ne_of_gt N1.out
      go_wp2_with fail
      refine bodyPost_ret (v := .tuple #[.agg #[.int .i64 0, .int .i64 0, .int .i64 0, .slice none 0 0, .slice none 0 0, .int .i64 0], .int .i64 2]) (by simp [results, Tryd.results17, go_sem, hc]) rfl ⟨zeroR, none, 0, none, 0, 2, rfl, HX.out, IntsAt.nil _ _, SnsAt.nil _ _, ?_⟩
      have T := H3.out
      repeat (with_reducible refine below_set ?_ (Nat.le_refl _) _ _)
      exact T
end
end Go.Proofs.YtcabeagmdfpdlaaDoor
/- The document's own Get, of texts: a move, a push, and what says nothing. -/
namespace Go.Proofs.YtcabeagmdfpdlaaDoor
open Go.ChangeShapes Go.WideShapes Go.ChangeAt Go.RowKit
set_option linter.unusedVariables false
open Go.RowKit Go
theorem kindN_le (x : List UInt8) : 0 ≤ kindN x ∧ kindN x ≤ 10 := by
  unfold kindN
  split
  · rename_i h
    have := List.idxOf_lt_length_iff.2 (of_decide_eq_true h)
    unfold posN
    simp only [kindNames] at this ⊢
    simp at this
    omega
  · omega
section
variable (s : ByteArray) (w : World) (hs : s.size ≤ 500000)
include hs
set_option maxRecDepth 100000 in
set_option maxHeartbeats 2000000 in
theorem refget_else (hne : words s.data.toList ≠ []) (hw : ¬ headW (words s.data.toList) = sError) (h1 : ¬ kindN (headW (words s.data.toList)) = 1) (h2 : ¬ kindN (headW (words s.data.toList)) = 2) (h9 : ¬ kindN (headW (words s.data.toList)) = 9) (h10 : ¬ kindN (headW (words s.data.toList)) = 10) :
    Calls Tryd.prog 17 #[.string s] w (GetsR s.data.toList w) := by
  have HZ := Lib.hid (words_small s hs)
  have HG := Lib.hid (got_of (l := s.data.toList) (g := refR (words s.data.toList)) (ref_guess s.data.toList))
  have HS := Lib.hid (show s.size ≤ 1000000 by omega)
  have B0 := Lib.hid (Blk.new w 26 #[.int .i64 0, .int .i64 0, .int .i64 0, .slice none 0 0, .slice none 0 0, .int .i64 0])
  have H0 := Lib.hid (show Below w.heap.size w (w.alloc (.cells #[.int .i64 0, .int .i64 0, .int .i64 0, .slice none 0 0, .slice none 0 0, .int .i64 0] 26)) from (Below.refl _ _).alloc (Nat.le_refl _) _)
  clear hs
  go_enter Tryd.func17, Tryd.ntmps17
  go_wp2_with fail
  refine (refcut_any s _ HS.out).mono ?_
  rintro e w1 ⟨v1, rfl, hv1, b1⟩
  have H1 := Lib.hid (bl H0.out b1)
  have B1 := Lib.hid (B0.out.call b1)
  have N1 := Lib.hid (show w.heap.size < w1.heap.size from B1.out.lt)
  generalize words s.data.toList = ws at *
  clear b1 B0 H0
  obtain ⟨N, hN⟩ : ∃ N, ws.length = N := ⟨_, rfl⟩
  have HN := Lib.hid hN
  have SV := Lib.hid hv1
  obtain ⟨a1, c1, rfl, hl1, hh⟩ := hv1
  rw [hN]
  have hpos : 0 < N := by rw [← hN]; exact List.length_pos_iff.2 hne
  have hN2 : N ≤ 900000 := by have := HZ.out.2; omega
  obtain ⟨b, off, rfl, hb, hcell⟩ : ∃ b off, a1 = some ⟨b, off, none⟩ ∧ b < w1.heap.size ∧ ∀ i (hi : i < ws.length), w1.cell? ⟨b, off + i, none⟩ = some (str ws[i]) := by
    rcases hh with hh | hh
    · exact absurd hh hne
    · exact hh
  have h0 := hcell 0 (by omega)
  rw [show ws[0] = headW ws from by cases ws with | nil => exact absurd rfl hne | cons x r => rfl, Nat.add_zero] at h0
  unfold str at h0
  have HC := Lib.hid hcell
  have SV2 := Lib.hid (show Strs w1 (.slice (some ⟨b, off, none⟩) N c1) ws from by have h := SV.out; rw [hN] at h; exact h)
  clear SV hh hcell hl1 hN hne
  rw [show refR ws = ⟨0, kindN (headW ws), 0, [], [], 0⟩ by unfold refR; rw [if_neg hw]; rw [if_neg (by omega), if_neg h9, if_neg h10]] at HG
  have hb0 : (headW ws == [101, 114, 114, 111, 114]) = false := by rw [beq_eq_false_iff_ne]; exact hw
  clear hw
  have HK := Lib.hid (kindN_le (headW ws))
  generalize headW ws = x at *
  go_wp2_with fail
  refine (refkind_any x _).mono ?_
  rintro e w2 ⟨rfl, b2⟩
  have BW := Lib.hid (((Below.refl w1.heap.size w1).alloc (Nat.le_refl _) (.cells #[.int .i64 0, .int .i64 0, .int .i64 0, .slice none 0 0, .slice none 0 0, .int .i64 0] 26)).trans (b2.mono (by simp)))
  have DZ := Lib.hid ((Blk.new w1 26 #[.int .i64 0, .int .i64 0, .int .i64 0, .slice none 0 0, .slice none 0 0, .int .i64 0]).call b2)
  clear b2 h0 hb0
  generalize kindN x = k at *
  have e1 : (k == 1) = false := by rw [beq_eq_false_iff_ne]; omega
  have e2 : (k == 2) = false := by rw [beq_eq_false_iff_ne]; omega
  have e9 : (k == 9) = false := by rw [beq_eq_false_iff_ne]; omega
  have e10 : (k == 10) = false := by rw [beq_eq_false_iff_ne]; omega
  have l9 : k < 9 := by have := HK.out; omega
  clear h1 h2 h9 h10
  have hc := DZ.out.cell
  have hf := DZ.out.frozen
  have hl := DZ.out.lt
  have BWX := Lib.hid (below_set BW.out (Nat.le_refl _) 1 (.int .i64 k))
  have DX := Lib.hid (show Blk (w2.setCell ⟨w1.heap.size, 1, none⟩ (.int .i64 k)) w1.heap.size 26 #[.int .i64 0, .int .i64 k, .int .i64 0, .slice none 0 0, .slice none 0 0, .int .i64 0] from DZ.out.set_ 1 (.int .i64 k))
  have BL9 := Lib.hid (bl H1.out BWX.out)
  have BZ9 := Lib.hid (B1.out.call BWX.out)
  have DG := Lib.hid DX.out
  have I9 := Lib.hid (NewI.nil w1.heap.size (w2.setCell ⟨w1.heap.size, 1, none⟩ (.int .i64 k)))
  have J9 := Lib.hid (NewS.nil w1.heap.size (w2.setCell ⟨w1.heap.size, 1, none⟩ (.int .i64 k)))
  go_wp2_with fail
  clear hc hf hl e1 e2 e9 e10 l9
  cases hm : rmayB (⟨0, k, 0, [], [], 0⟩)
  · have HP := Lib.hid (show rputOut (⟨0, k, 0, [], [], 0⟩) = .tuple #[.string ⟨#[]⟩, .int .i64 2] by simp [rputOut, rputS, rputN, hm, str])
    have HX := Lib.hid (show GotR s.data.toList zeroR 2 by have := HG.out; rw [hm] at this; simpa using this)
    clear hm HG
    refine (rrefput_any (⟨0, k, 0, [], [], 0⟩) none none 0 0 _ I9.out.1 J9.out.1).mono ?_
    rintro e w30 ⟨rfl, b3⟩
    rw [HP.out]
    have H3 := Lib.hid (bl BL9.out b3)
    have B3 := Lib.hid (BZ9.out.call b3)
    have R3 := Lib.hid (DG.out.call b3)
    have I3 := Lib.hid (I9.out.grown (r := none) (grown_below b3 none) (fun k hk => by cases hk))
    have J3 := Lib.hid (J9.out.grown (r := none) (grown_below b3 none) (fun k hk => by cases hk))
    clear b3 BZ9 DG I9 J9 BL9
    have hc := B3.out.cell
    have hf := B3.out.frozen
    have hl := B3.out.lt
    have hc2 := R3.out.cell
    have hf2 := R3.out.frozen
    have hl2 := R3.out.lt
    have n1 : w.heap.size ≠ w1.heap.size := Nat.ne_of_lt N1.out
    have n2 : w1.heap.size ≠ w.heap.size := Nat.ne_of_gt N1.out
    go_wp2_with fail
    refine bodyPost_ret (v := .tuple #[.agg #[.int .i64 0, .int .i64 0, .int .i64 0, .slice none 0 0, .slice none 0 0, .int .i64 0], .int .i64 2]) (by simp [results, Tryd.results17, go_sem, hc]) rfl ⟨zeroR, none, 0, none, 0, 2, rfl, HX.out, IntsAt.nil _ _, SnsAt.nil _ _, ?_⟩
    have T := H3.out
    repeat (with_reducible refine below_set ?_ (Nat.le_refl _) _ _)
    exact T
  · by_cases ht : textR (⟨0, k, 0, [], [], 0⟩) = s.data.toList
    · have HP := Lib.hid (show rputOut (⟨0, k, 0, [], [], 0⟩) = .tuple #[.string s, .int .i64 0] by simp [rputOut, rputS, rputN, hm, str, ht])
      have HX := Lib.hid (show GotR s.data.toList (⟨0, k, 0, [], [], 0⟩) 0 by have := HG.out; rw [hm, decide_eq_true ht] at this; simpa using this)
      clear hm HG ht
      refine (rrefput_any (⟨0, k, 0, [], [], 0⟩) none none 0 0 _ I9.out.1 J9.out.1).mono ?_
      rintro e w30 ⟨rfl, b3⟩
      rw [HP.out]
      have H3 := Lib.hid (bl BL9.out b3)
      have B3 := Lib.hid (BZ9.out.call b3)
      have R3 := Lib.hid (DG.out.call b3)
      have I3 := Lib.hid (I9.out.grown (r := none) (grown_below b3 none) (fun k hk => by cases hk))
      have J3 := Lib.hid (J9.out.grown (r := none) (grown_below b3 none) (fun k hk => by cases hk))
      clear b3 BZ9 DG I9 J9 BL9
      have hc := B3.out.cell
      have hf := B3.out.frozen
      have hl := B3.out.lt
      have hc2 := R3.out.cell
      have hf2 := R3.out.frozen
      have hl2 := R3.out.lt
      have n1 : w.heap.size ≠ w1.heap.size := Nat.ne_of_lt N1.out
      have n2 : w1.heap.size ≠ w.heap.size := Nat.ne_of_gt N1.out
      go_wp2_with fail
      refine bodyPost_ret (v := .tuple #[.agg #[.int .i64 0, .int .i64 k, .int .i64 0, .slice none 0 0, .slice none 0 0, .int .i64 0], .int .i64 0]) (by simp [results, Tryd.results17, go_sem, hc]) rfl ⟨⟨0, k, 0, [], [], 0⟩, none, 0, none, 0, 0, rfl, HX.out, ?_, ?_, ?_⟩
      · have T := I3.out
        refine NewI.to (n := w1.heap.size) ?_
        repeat (with_reducible refine NewI.set ?_ N1.out _ _)
        exact T
      · have T := J3.out
        refine NewS.to (n := w1.heap.size) ?_
        repeat (with_reducible refine NewS.set ?_ N1.out _ _)
        exact T
      · have T := H3.out
        repeat (with_reducible refine below_set ?_ (Nat.le_refl _) _ _)
        exact T
    · obtain ⟨A, hA⟩ : ∃ A : ByteArray, A = ⟨(textR (⟨0, k, 0, [], [], 0⟩)).toArray⟩ := ⟨_, rfl⟩
      have HP := Lib.hid (show rputOut (⟨0, k, 0, [], [], 0⟩) = .tuple #[.string A, .int .i64 0] by simp [rputOut, rputS, rputN, hm, str, hA])
      have HX := Lib.hid (show GotR s.data.toList zeroR 2 by have := HG.out; rw [hm, decide_eq_false ht] at this; simpa using this)
      have q1 : (A.toList == s.toList) = false := by
        rw [beq_eq_false_iff_ne, ByteArray.toList_eq, ByteArray.toList_eq, hA]
        exact ht
      have q2 : (A.toList != s.toList) = true := by rw [bne, q1]; rfl
      clear hm HG ht hA
      refine (rrefput_any (⟨0, k, 0, [], [], 0⟩) none none 0 0 _ I9.out.1 J9.out.1).mono ?_
      rintro e w30 ⟨rfl, b3⟩
      rw [HP.out]
      have H3 := Lib.hid (bl BL9.out b3)
      have B3 := Lib.hid (BZ9.out.call b3)
      have R3 := Lib.hid (DG.out.call b3)
      have I3 := Lib.hid (I9.out.grown (r := none) (grown_below b3 none) (fun k hk => by cases hk))
      have J3 := Lib.hid (J9.out.grown (r := none) (grown_below b3 none) (fun k hk => by cases hk))
      clear b3 BZ9 DG I9 J9 BL9
      have hc := B3.out.cell
      have hf := B3.out.frozen
      have hl := B3.out.lt
      have hc2 := R3.out.cell
      have hf2 := R3.out.frozen
      have hl2 := R3.out.lt
      have n1 : w.heap.size ≠ w1.heap.size := Nat.ne_of_lt N1.out
      have n2 : w1.heap.size ≠ w.heap.size := Nat.ne_of_gt N1.out
      go_wp2_with fail
      refine bodyPost_ret (v := .tuple #[.agg #[.int .i64 0, .int .i64 0, .int .i64 0, .slice none 0 0, .slice none 0 0, .int .i64 0], .int .i64 2]) (by simp [results, Tryd.results17, go_sem, hc]) rfl ⟨zeroR, none, 0, none, 0, 2, rfl, HX.out, IntsAt.nil _ _, SnsAt.nil _ _, ?_⟩
      have T := H3.out
      repeat (with_reducible refine below_set ?_ (Nat.le_refl _) _ _)
      exact T
set_option maxRecDepth 100000 in
set_option maxHeartbeats 2000000 in
theorem refget_move (hne : words s.data.toList ≠ []) (hw : ¬ headW (words s.data.toList) = sError) (h12 : kindN (headW (words s.data.toList)) = 1 ∨ kindN (headW (words s.data.toList)) = 2) :
    Calls Tryd.prog 17 #[.string s] w (GetsR s.data.toList w) := by
  have HZ := Lib.hid (words_small s hs)
  have HG := Lib.hid (got_of (l := s.data.toList) (g := refR (words s.data.toList)) (ref_guess s.data.toList))
  have HS := Lib.hid (show s.size ≤ 1000000 by omega)
  have B0 := Lib.hid (Blk.new w 26 #[.int .i64 0, .int .i64 0, .int .i64 0, .slice none 0 0, .slice none 0 0, .int .i64 0])
  have H0 := Lib.hid (show Below w.heap.size w (w.alloc (.cells #[.int .i64 0, .int .i64 0, .int .i64 0, .slice none 0 0, .slice none 0 0, .int .i64 0] 26)) from (Below.refl _ _).alloc (Nat.le_refl _) _)
  clear hs
  go_enter Tryd.func17, Tryd.ntmps17
  go_wp2_with fail
  refine (refcut_any s _ HS.out).mono ?_
  rintro e w1 ⟨v1, rfl, hv1, b1⟩
  have H1 := Lib.hid (bl H0.out b1)
  have B1 := Lib.hid (B0.out.call b1)
  have N1 := Lib.hid (show w.heap.size < w1.heap.size from B1.out.lt)
  generalize words s.data.toList = ws at *
  clear b1 B0 H0
  obtain ⟨N, hN⟩ : ∃ N, ws.length = N := ⟨_, rfl⟩
  have HN := Lib.hid hN
  have SV := Lib.hid hv1
  obtain ⟨a1, c1, rfl, hl1, hh⟩ := hv1
  rw [hN]
  have hpos : 0 < N := by rw [← hN]; exact List.length_pos_iff.2 hne
  have hN2 : N ≤ 900000 := by have := HZ.out.2; omega
  obtain ⟨b, off, rfl, hb, hcell⟩ : ∃ b off, a1 = some ⟨b, off, none⟩ ∧ b < w1.heap.size ∧ ∀ i (hi : i < ws.length), w1.cell? ⟨b, off + i, none⟩ = some (str ws[i]) := by
    rcases hh with hh | hh
    · exact absurd hh hne
    · exact hh
  have h0 := hcell 0 (by omega)
  rw [show ws[0] = headW ws from by cases ws with | nil => exact absurd rfl hne | cons x r => rfl, Nat.add_zero] at h0
  unfold str at h0
  have HC := Lib.hid hcell
  have SV2 := Lib.hid (show Strs w1 (.slice (some ⟨b, off, none⟩) N c1) ws from by have h := SV.out; rw [hN] at h; exact h)
  clear SV hh hcell hl1 hN hne
  rw [show refR ws = ⟨0, kindN (headW ws), (numN (wat ws 1) : Int), [], [], 0⟩ by unfold refR; rw [if_neg hw]; rw [if_pos h12]] at HG
  have hb0 : (headW ws == [101, 114, 114, 111, 114]) = false := by rw [beq_eq_false_iff_ne]; exact hw
  clear hw
  have HK := Lib.hid (kindN_le (headW ws))
  generalize headW ws = x at *
  go_wp2_with fail
  refine (refkind_any x _).mono ?_
  rintro e w2 ⟨rfl, b2⟩
  have BW := Lib.hid (((Below.refl w1.heap.size w1).alloc (Nat.le_refl _) (.cells #[.int .i64 0, .int .i64 0, .int .i64 0, .slice none 0 0, .slice none 0 0, .int .i64 0] 26)).trans (b2.mono (by simp)))
  have DZ := Lib.hid ((Blk.new w1 26 #[.int .i64 0, .int .i64 0, .int .i64 0, .slice none 0 0, .slice none 0 0, .int .i64 0]).call b2)
  clear b2 h0 hb0
  generalize kindN x = k at *
  have ek : (k == 1) = true ∨ (k == 1) = false ∧ (k == 2) = true := by rcases h12 with h | h <;> simp [h]
  have e9 : (k == 9) = false := by rw [beq_eq_false_iff_ne]; omega
  have e10 : (k == 10) = false := by rw [beq_eq_false_iff_ne]; omega
  have l9 : k < 9 := by omega
  clear h12
  obtain ⟨M, hM⟩ : ∃ M : Int, (numN (wat ws 1) : Int) = M := ⟨_, rfl⟩
  rw [hM] at HG
  have HM := Lib.hid hM
  clear hM
  have hc := DZ.out.cell
  have hf := DZ.out.frozen
  have hl := DZ.out.lt
  have SW := Lib.hid (SV2.out.below (below_set BW.out (Nat.le_refl _) 1 (.int .i64 k)))
  have BWX := Lib.hid (below_set (below_set BW.out (Nat.le_refl _) 1 (.int .i64 k)) (Nat.le_refl _) 2 (.int .i64 M))
  have DX := Lib.hid (show Blk ((w2.setCell ⟨w1.heap.size, 1, none⟩ (.int .i64 k)).setCell ⟨w1.heap.size, 2, none⟩ (.int .i64 M)) w1.heap.size 26 #[.int .i64 0, .int .i64 k, .int .i64 M, .slice none 0 0, .slice none 0 0, .int .i64 0] from (DZ.out.set_ 1 (.int .i64 k)).set_ 2 (.int .i64 M))
  have BL9 := Lib.hid (bl H1.out BWX.out)
  have BZ9 := Lib.hid (B1.out.call BWX.out)
  have DG := Lib.hid DX.out
  have I9 := Lib.hid (NewI.nil w1.heap.size ((w2.setCell ⟨w1.heap.size, 1, none⟩ (.int .i64 k)).setCell ⟨w1.heap.size, 2, none⟩ (.int .i64 M)))
  have J9 := Lib.hid (NewS.nil w1.heap.size ((w2.setCell ⟨w1.heap.size, 1, none⟩ (.int .i64 k)).setCell ⟨w1.heap.size, 2, none⟩ (.int .i64 M)))
  rcases ek with ek | ⟨ek, ek2⟩
  all_goals
    go_wp2_with fail
    refine (refnum_any _ 1 HN.out SW.out HZ.out.1 (by decide) HZ.out.2).mono ?_
    rintro e w2 ⟨rfl, rfl⟩
    rw [HM.out]
    go_wp2_with fail
    clear hc hf hl ek e9 e10 l9
    cases hm : rmayB (⟨0, k, M, [], [], 0⟩)
    · have HP := Lib.hid (show rputOut (⟨0, k, M, [], [], 0⟩) = .tuple #[.string ⟨#[]⟩, .int .i64 2] by simp [rputOut, rputS, rputN, hm, str])
      have HX := Lib.hid (show GotR s.data.toList zeroR 2 by have := HG.out; rw [hm] at this; simpa using this)
      clear hm HG
      refine (rrefput_any (⟨0, k, M, [], [], 0⟩) none none 0 0 _ I9.out.1 J9.out.1).mono ?_
      rintro e w30 ⟨rfl, b3⟩
      rw [HP.out]
      have H3 := Lib.hid (bl BL9.out b3)
      have B3 := Lib.hid (BZ9.out.call b3)
      have R3 := Lib.hid (DG.out.call b3)
      have I3 := Lib.hid (I9.out.grown (r := none) (grown_below b3 none) (fun k hk => by cases hk))
      have J3 := Lib.hid (J9.out.grown (r := none) (grown_below b3 none) (fun k hk => by cases hk))
      clear b3 BZ9 DG I9 J9 BL9
      have hc := B3.out.cell
      have hf := B3.out.frozen
      have hl := B3.out.lt
      have hc2 := R3.out.cell
      have hf2 := R3.out.frozen
      have hl2 := R3.out.lt
      have n1 : w.heap.size ≠ w1.heap.size := Nat.ne_of_lt N1.out
      have n2 : w1.heap.size ≠ w.heap.size := Nat.ne_of_gt N1.out
      go_wp2_with fail
      refine bodyPost_ret (v := .tuple #[.agg #[.int .i64 0, .int .i64 0, .int .i64 0, .slice none 0 0, .slice none 0 0, .int .i64 0], .int .i64 2]) (by simp [results, Tryd.results17, go_sem, hc]) rfl ⟨zeroR, none, 0, none, 0, 2, rfl, HX.out, IntsAt.nil _ _, SnsAt.nil _ _, ?_⟩
      have T := H3.out
      repeat (with_reducible refine below_set ?_ (Nat.le_refl _) _ _)
      exact T
    · by_cases ht : textR (⟨0, k, M, [], [], 0⟩) = s.data.toList
      · have HP := Lib.hid (show rputOut (⟨0, k, M, [], [], 0⟩) = .tuple #[.string s, .int .i64 0] by simp [rputOut, rputS, rputN, hm, str, ht])
        have HX := Lib.hid (show GotR s.data.toList (⟨0, k, M, [], [], 0⟩) 0 by have := HG.out; rw [hm, decide_eq_true ht] at this; simpa using this)
        clear hm HG ht
        refine (rrefput_any (⟨0, k, M, [], [], 0⟩) none none 0 0 _ I9.out.1 J9.out.1).mono ?_
        rintro e w30 ⟨rfl, b3⟩
        rw [HP.out]
        have H3 := Lib.hid (bl BL9.out b3)
        have B3 := Lib.hid (BZ9.out.call b3)
        have R3 := Lib.hid (DG.out.call b3)
        have I3 := Lib.hid (I9.out.grown (r := none) (grown_below b3 none) (fun k hk => by cases hk))
        have J3 := Lib.hid (J9.out.grown (r := none) (grown_below b3 none) (fun k hk => by cases hk))
        clear b3 BZ9 DG I9 J9 BL9
        have hc := B3.out.cell
        have hf := B3.out.frozen
        have hl := B3.out.lt
        have hc2 := R3.out.cell
        have hf2 := R3.out.frozen
        have hl2 := R3.out.lt
        have n1 : w.heap.size ≠ w1.heap.size := Nat.ne_of_lt N1.out
        have n2 : w1.heap.size ≠ w.heap.size := Nat.ne_of_gt N1.out
        go_wp2_with fail
        refine bodyPost_ret (v := .tuple #[.agg #[.int .i64 0, .int .i64 k, .int .i64 M, .slice none 0 0, .slice none 0 0, .int .i64 0], .int .i64 0]) (by simp [results, Tryd.results17, go_sem, hc]) rfl ⟨⟨0, k, M, [], [], 0⟩, none, 0, none, 0, 0, rfl, HX.out, ?_, ?_, ?_⟩
        · have T := I3.out
          refine NewI.to (n := w1.heap.size) ?_
          repeat (with_reducible refine NewI.set ?_ N1.out _ _)
          exact T
        · have T := J3.out
          refine NewS.to (n := w1.heap.size) ?_
          repeat (with_reducible refine NewS.set ?_ N1.out _ _)
          exact T
        · have T := H3.out
          repeat (with_reducible refine below_set ?_ (Nat.le_refl _) _ _)
          exact T
      · obtain ⟨A, hA⟩ : ∃ A : ByteArray, A = ⟨(textR (⟨0, k, M, [], [], 0⟩)).toArray⟩ := ⟨_, rfl⟩
        have HP := Lib.hid (show rputOut (⟨0, k, M, [], [], 0⟩) = .tuple #[.string A, .int .i64 0] by simp [rputOut, rputS, rputN, hm, str, hA])
        have HX := Lib.hid (show GotR s.data.toList zeroR 2 by have := HG.out; rw [hm, decide_eq_false ht] at this; simpa using this)
        have q1 : (A.toList == s.toList) = false := by
          rw [beq_eq_false_iff_ne, ByteArray.toList_eq, ByteArray.toList_eq, hA]
          exact ht
        have q2 : (A.toList != s.toList) = true := by rw [bne, q1]; rfl
        clear hm HG ht hA
        refine (rrefput_any (⟨0, k, M, [], [], 0⟩) none none 0 0 _ I9.out.1 J9.out.1).mono ?_
        rintro e w30 ⟨rfl, b3⟩
        rw [HP.out]
        have H3 := Lib.hid (bl BL9.out b3)
        have B3 := Lib.hid (BZ9.out.call b3)
        have R3 := Lib.hid (DG.out.call b3)
        have I3 := Lib.hid (I9.out.grown (r := none) (grown_below b3 none) (fun k hk => by cases hk))
        have J3 := Lib.hid (J9.out.grown (r := none) (grown_below b3 none) (fun k hk => by cases hk))
        clear b3 BZ9 DG I9 J9 BL9
        have hc := B3.out.cell
        have hf := B3.out.frozen
        have hl := B3.out.lt
        have hc2 := R3.out.cell
        have hf2 := R3.out.frozen
        have hl2 := R3.out.lt
        have n1 : w.heap.size ≠ w1.heap.size := Nat.ne_of_lt N1.out
        have n2 : w1.heap.size ≠ w.heap.size := Nat.ne_of_gt N1.out
        go_wp2_with fail
        refine bodyPost_ret (v := .tuple #[.agg #[.int .i64 0, .int .i64 0, .int .i64 0, .slice none 0 0, .slice none 0 0, .int .i64 0], .int .i64 2]) (by simp [results, Tryd.results17, go_sem, hc]) rfl ⟨zeroR, none, 0, none, 0, 2, rfl, HX.out, IntsAt.nil _ _, SnsAt.nil _ _, ?_⟩
        have T := H3.out
        repeat (with_reducible refine below_set ?_ (Nat.le_refl _) _ _)
        exact T
end
end Go.Proofs.YtcabeagmdfpdlaaDoor
/- The document's own Get, of texts: what one has. -/
namespace Go.Proofs.YtcabeagmdfpdlaaDoor
open Go.ChangeShapes Go.WideShapes Go.ChangeAt Go.RowKit
set_option linter.unusedVariables false
open Go.RowKit Go
section
variable (s : ByteArray) (w : World) (hs : s.size ≤ 500000)
include hs
set_option maxRecDepth 100000 in
set_option maxHeartbeats 1000000 in
theorem refget_own (hne : words s.data.toList ≠ []) (hw : ¬ headW (words s.data.toList) = sError) (h10 : kindN (headW (words s.data.toList)) = 10) :
    Calls Tryd.prog 17 #[.string s] w (GetsR s.data.toList w) := by
  have HZ := Lib.hid (words_small s hs)
  have HG := Lib.hid (got_of (l := s.data.toList) (g := refR (words s.data.toList)) (ref_guess s.data.toList))
  have HS := Lib.hid (show s.size ≤ 1000000 by omega)
  have B0 := Lib.hid (Blk.new w 26 #[.int .i64 0, .int .i64 0, .int .i64 0, .slice none 0 0, .slice none 0 0, .int .i64 0])
  have H0 := Lib.hid (show Below w.heap.size w (w.alloc (.cells #[.int .i64 0, .int .i64 0, .int .i64 0, .slice none 0 0, .slice none 0 0, .int .i64 0] 26)) from (Below.refl _ _).alloc (Nat.le_refl _) _)
  clear hs
  go_enter Tryd.func17, Tryd.ntmps17
  go_wp2_with fail
  refine (refcut_any s _ HS.out).mono ?_
  rintro e w1 ⟨v1, rfl, hv1, b1⟩
  have H1 := Lib.hid (bl H0.out b1)
  have B1 := Lib.hid (B0.out.call b1)
  have N1 := Lib.hid (show w.heap.size < w1.heap.size from B1.out.lt)
  generalize words s.data.toList = ws at *
  clear b1 B0 H0
  obtain ⟨N, hN⟩ : ∃ N, ws.length = N := ⟨_, rfl⟩
  have HN := Lib.hid hN
  have SV := Lib.hid hv1
  obtain ⟨a1, c1, rfl, hl1, hh⟩ := hv1
  rw [hN]
  have hpos : 0 < N := by rw [← hN]; exact List.length_pos_iff.2 hne
  have hN2 : N ≤ 900000 := by have := HZ.out.2; omega
  obtain ⟨b, off, rfl, hb, hcell⟩ : ∃ b off, a1 = some ⟨b, off, none⟩ ∧ b < w1.heap.size ∧ ∀ i (hi : i < ws.length), w1.cell? ⟨b, off + i, none⟩ = some (str ws[i]) := by
    rcases hh with hh | hh
    · exact absurd hh hne
    · exact hh
  have h0 := hcell 0 (by omega)
  rw [show ws[0] = headW ws from by cases ws with | nil => exact absurd rfl hne | cons x r => rfl, Nat.add_zero] at h0
  unfold str at h0
  have HC := Lib.hid hcell
  have SV2 := Lib.hid (show Strs w1 (.slice (some ⟨b, off, none⟩) N c1) ws from by have h := SV.out; rw [hN] at h; exact h)
  clear SV hh hcell hl1 hN hne
  rw [show refR ws = ⟨0, 10, 0, [], rgI (ws.drop 3), (numN (wat ws 1) : Int)⟩ by unfold refR; rw [if_neg hw]; rw [if_neg (by omega), if_neg (by omega), if_pos h10]] at HG
  have hb0 : (headW ws == [101, 114, 114, 111, 114]) = false := by rw [beq_eq_false_iff_ne]; exact hw
  clear hw
  have HK := Lib.hid (kindN_le (headW ws))
  generalize headW ws = x at *
  go_wp2_with fail
  refine (refkind_any x _).mono ?_
  rintro e w2 ⟨rfl, b2⟩
  have BW := Lib.hid (((Below.refl w1.heap.size w1).alloc (Nat.le_refl _) (.cells #[.int .i64 0, .int .i64 0, .int .i64 0, .slice none 0 0, .slice none 0 0, .int .i64 0] 26)).trans (b2.mono (by simp)))
  have DZ := Lib.hid ((Blk.new w1 26 #[.int .i64 0, .int .i64 0, .int .i64 0, .slice none 0 0, .slice none 0 0, .int .i64 0]).call b2)
  clear b2 h0 hb0
  generalize kindN x = k at *
  subst h10
  obtain ⟨M, hM⟩ : ∃ M : Int, (numN (wat ws 1) : Int) = M := ⟨_, rfl⟩
  rw [hM] at HG
  have HM := Lib.hid hM
  clear hM
  have hc := DZ.out.cell
  have hf := DZ.out.frozen
  have hl := DZ.out.lt
  have SW := Lib.hid (SV2.out.below (below_set BW.out (Nat.le_refl _) 1 (.int .i64 10)))
  have BBX := Lib.hid (below_set (below_set BW.out (Nat.le_refl _) 1 (.int .i64 10)) (Nat.le_refl _) 5 (.int .i64 M))
  have DBX := Lib.hid (show Blk ((w2.setCell ⟨w1.heap.size, 1, none⟩ (.int .i64 10)).setCell ⟨w1.heap.size, 5, none⟩ (.int .i64 M)) w1.heap.size 26 #[.int .i64 0, .int .i64 10, .int .i64 0, .slice none 0 0, .slice none 0 0, .int .i64 M] from (DZ.out.set_ 1 (.int .i64 10)).set_ 5 (.int .i64 M))
  have LB := Lib.hid DBX.out.lt
  go_wp2_with fail
  refine (refnum_any _ 1 HN.out SW.out HZ.out.1 (by decide) HZ.out.2).mono ?_
  rintro e w3 ⟨rfl, rfl⟩
  rw [HM.out]
  go_wp2_with fail
  clear hc hf hl SW BW DZ
  generalize (w2.setCell ⟨w1.heap.size, 1, none⟩ (.int .i64 10)).setCell ⟨w1.heap.size, 5, none⟩ (.int .i64 M) = wb at *
  go_loopw [6, 7] (fun i _ wr => ItInv ws N (3) (fun v => #[.int .i64 0, .int .i64 10, .int .i64 0, .slice none 0 0, v, .int .i64 M]) w1 wb i wr) (fun i _ _ => N + 3 - (intOf i).toNat)
  case atStart => exact it_start (by rfl) (by omega) DBX.out BBX.out
  case round =>
    obtain ⟨acc, v, j, rfl, hJ, hE, hjN, hR, hD, hB, hGr⟩ := hrel
    have HJ := Lib.hid hJ
    have HE := Lib.hid hE
    have HR := Lib.hid hR
    have HD := Lib.hid hD
    have HB := Lib.hid hB
    have GR := Lib.hid hGr
    have SW := Lib.hid (SV2.out.below hB)
    clear hJ hE hR hD hB hGr
    by_cases hlt : j < N
    · have hA := (show ∀ i, wr.cell? ⟨w1.heap.size, i, none⟩ = (#[.int .i64 0, .int .i64 10, .int .i64 0, .slice none 0 0, v, .int .i64 M][i]? : Option Value) from HD.out.cell)
      have hlt0 := HD.out.lt
      have hbl : b < wr.heap.size := Nat.lt_of_lt_of_le hb HB.out.size
      have hSS := rgI_at HN.out hlt
      obtain ⟨X, hX⟩ : ∃ X : Int, (numN (wat ws j) : Int) = X := ⟨_, rfl⟩
      obtain ⟨Z, hZ⟩ : ∃ Z : Int, (numN (wat ws (j + 2)) : Int) = Z := ⟨_, rfl⟩
      rw [hX, hZ] at hSS
      have HXX := Lib.hid hX
      have HZZ := Lib.hid hZ
      have hwr1 : IntKind.i64.wrap ((j : Int) + 1) = (j : Int) + 1 := IntWalk.i64_in _ (by omega)
      have hwr2 : IntKind.i64.wrap ((j : Int) + 2) = (j : Int) + 2 := IntWalk.i64_in _ (by omega)
      have hwr3 : IntKind.i64.wrap ((j : Int) + 3) = (j : Int) + 3 := IntWalk.i64_in _ (by omega)
      clear hX hZ
      by_cases h1 : j + 1 < N
      · have hy := (HB.out.cell (p := ⟨b, off + (j + 1), none⟩) hb).trans (HC.out (j + 1) (by rw [HN.out]; exact h1))
        rw [show ws[j + 1]'(by rw [HN.out]; exact h1) = wat ws (j + 1) by simp only [wat, List.getD]; rw [List.getElem?_eq_getElem (by rw [HN.out]; exact h1)]; rfl] at hy
        generalize wat ws (j + 1) = y at *
        have HS := Lib.hid hSS
        clear hSS
        unfold str at hy
        by_cases y1 : y = [119, 105, 116, 104]
        · subst y1
          have HKK := Lib.hid (show kOf [119, 105, 116, 104] = 1 by decide)
          go_wp2_with fail
          refine (refnum_int _ _ j rfl HN.out SW.out HZ.out.1 (by omega) HZ.out.2).mono ?_
          rintro e w9 ⟨rfl, rfl⟩
          rw [HXX.out]
          go_wp2_with fail
          refine (refnum_int _ _ (j + 2) rfl HN.out SW.out HZ.out.1 (by omega) HZ.out.2).mono ?_
          rintro e w9 ⟨rfl, rfl⟩
          rw [HZZ.out]
          have HS2 := Lib.hid (show rgI (ws.drop j) = ⟨X, 1, Z⟩ :: rgI (ws.drop (j + 3)) by rw [HS.out, HKK.out])
          obtain ⟨v3, W3, hrun, hrow, hgr⟩ := append_seen_n (W := wr.alloc (.cells #[.int .i64 X, .int .i64 1, .int .i64 Z] 46)) (m := wr.heap.size + 1) (by simp) (HR.out.alloc _) X 1 Z (by have := HJ.out; omega) (by have := GR.out.size; simp; omega)
          obtain ⟨a3, c3, rfl⟩ := own_form hrow
          have HRN := Lib.hid hrun
          have HRW := Lib.hid hrow
          have HGR := Lib.hid hgr
          have D3 := Lib.hid (seen_block (CL := fun v => #[.int .i64 0, .int .i64 10, .int .i64 0, .slice none 0 0, v, .int .i64 M]) HR.out HD.out hgr LB.out)
          clear hrun hrow hgr
          have hc3 := D3.out.cell
          have hf3 := D3.out.frozen
          have hl3 := D3.out.lt
          go_wp2_with (at_builtin; refine append_step1 rfl (.tmp 131) (.tmp 133) 24 rfl _ _ _ W3 rfl rfl HRN.out ?_)
          go_roundw
          case rel => exact seen_round (CL := fun v => #[.int .i64 0, .int .i64 10, .int .i64 0, .slice none 0 0, v, .int .i64 M]) HJ.out HE.out HR.out HD.out HB.out GR.out LB.out HRW.out HGR.out rfl hlt HS2.out rfl
          case measure => simp [intOf]; omega
        · by_cases y2 : y = [98, 111, 120]
          · subst y2
            have HKK := Lib.hid (show kOf [98, 111, 120] = 2 by decide)
            clear y1
            go_wp2_with fail
            refine (refnum_int _ _ j rfl HN.out SW.out HZ.out.1 (by omega) HZ.out.2).mono ?_
            rintro e w9 ⟨rfl, rfl⟩
            rw [HXX.out]
            go_wp2_with fail
            refine (refnum_int _ _ (j + 2) rfl HN.out SW.out HZ.out.1 (by omega) HZ.out.2).mono ?_
            rintro e w9 ⟨rfl, rfl⟩
            rw [HZZ.out]
            have HS2 := Lib.hid (show rgI (ws.drop j) = ⟨X, 2, Z⟩ :: rgI (ws.drop (j + 3)) by rw [HS.out, HKK.out])
            obtain ⟨v3, W3, hrun, hrow, hgr⟩ := append_seen_n (W := wr.alloc (.cells #[.int .i64 X, .int .i64 2, .int .i64 Z] 46)) (m := wr.heap.size + 1) (by simp) (HR.out.alloc _) X 2 Z (by have := HJ.out; omega) (by have := GR.out.size; simp; omega)
            obtain ⟨a3, c3, rfl⟩ := own_form hrow
            have HRN := Lib.hid hrun
            have HRW := Lib.hid hrow
            have HGR := Lib.hid hgr
            have D3 := Lib.hid (seen_block (CL := fun v => #[.int .i64 0, .int .i64 10, .int .i64 0, .slice none 0 0, v, .int .i64 M]) HR.out HD.out hgr LB.out)
            clear hrun hrow hgr
            have hc3 := D3.out.cell
            have hf3 := D3.out.frozen
            have hl3 := D3.out.lt
            go_wp2_with (at_builtin; refine append_step1 rfl (.tmp 131) (.tmp 133) 24 rfl _ _ _ W3 rfl rfl HRN.out ?_)
            go_roundw
            case rel => exact seen_round (CL := fun v => #[.int .i64 0, .int .i64 10, .int .i64 0, .slice none 0 0, v, .int .i64 M]) HJ.out HE.out HR.out HD.out HB.out GR.out LB.out HRW.out HGR.out rfl hlt HS2.out rfl
            case measure => simp [intOf]; omega
          · have HKK := Lib.hid (show kOf y = 0 by unfold kOf; rw [if_neg y1, if_neg y2])
            have z1 : (y == [119, 105, 116, 104]) = false := by rw [beq_eq_false_iff_ne]; exact y1
            have z2 : (y == [98, 111, 120]) = false := by rw [beq_eq_false_iff_ne]; exact y2
            clear y1 y2
            go_wp2_with fail
            refine (refnum_int _ _ j rfl HN.out SW.out HZ.out.1 (by omega) HZ.out.2).mono ?_
            rintro e w9 ⟨rfl, rfl⟩
            rw [HXX.out]
            go_wp2_with fail
            refine (refnum_int _ _ (j + 2) rfl HN.out SW.out HZ.out.1 (by omega) HZ.out.2).mono ?_
            rintro e w9 ⟨rfl, rfl⟩
            rw [HZZ.out]
            have HS2 := Lib.hid (show rgI (ws.drop j) = ⟨X, 0, Z⟩ :: rgI (ws.drop (j + 3)) by rw [HS.out, HKK.out])
            obtain ⟨v3, W3, hrun, hrow, hgr⟩ := append_seen_n (W := wr.alloc (.cells #[.int .i64 X, .int .i64 0, .int .i64 Z] 46)) (m := wr.heap.size + 1) (by simp) (HR.out.alloc _) X 0 Z (by have := HJ.out; omega) (by have := GR.out.size; simp; omega)
            obtain ⟨a3, c3, rfl⟩ := own_form hrow
            have HRN := Lib.hid hrun
            have HRW := Lib.hid hrow
            have HGR := Lib.hid hgr
            have D3 := Lib.hid (seen_block (CL := fun v => #[.int .i64 0, .int .i64 10, .int .i64 0, .slice none 0 0, v, .int .i64 M]) HR.out HD.out hgr LB.out)
            clear hrun hrow hgr
            have hc3 := D3.out.cell
            have hf3 := D3.out.frozen
            have hl3 := D3.out.lt
            go_wp2_with (at_builtin; refine append_step1 rfl (.tmp 131) (.tmp 133) 24 rfl _ _ _ W3 rfl rfl HRN.out ?_)
            go_roundw
            case rel => exact seen_round (CL := fun v => #[.int .i64 0, .int .i64 10, .int .i64 0, .slice none 0 0, v, .int .i64 M]) HJ.out HE.out HR.out HD.out HB.out GR.out LB.out HRW.out HGR.out rfl hlt HS2.out rfl
            case measure => simp [intOf]; omega
      · have HKK := Lib.hid (show kOf (wat ws (j + 1)) = 0 by simp only [wat, List.getD]; rw [List.getElem?_eq_none (by rw [HN.out]; omega)]; exact kOf_nil)
        generalize wat ws (j + 1) = y at *
        have HS := Lib.hid hSS
        clear hSS
        go_wp2_with fail
        refine (refnum_int _ _ j rfl HN.out SW.out HZ.out.1 (by omega) HZ.out.2).mono ?_
        rintro e w9 ⟨rfl, rfl⟩
        rw [HXX.out]
        go_wp2_with fail
        refine (refnum_int _ _ (j + 2) rfl HN.out SW.out HZ.out.1 (by omega) HZ.out.2).mono ?_
        rintro e w9 ⟨rfl, rfl⟩
        rw [HZZ.out]
        have HS2 := Lib.hid (show rgI (ws.drop j) = ⟨X, 0, Z⟩ :: rgI (ws.drop (j + 3)) by rw [HS.out, HKK.out])
        obtain ⟨v3, W3, hrun, hrow, hgr⟩ := append_seen_n (W := wr.alloc (.cells #[.int .i64 X, .int .i64 0, .int .i64 Z] 46)) (m := wr.heap.size + 1) (by simp) (HR.out.alloc _) X 0 Z (by have := HJ.out; omega) (by have := GR.out.size; simp; omega)
        obtain ⟨a3, c3, rfl⟩ := own_form hrow
        have HRN := Lib.hid hrun
        have HRW := Lib.hid hrow
        have HGR := Lib.hid hgr
        have D3 := Lib.hid (seen_block (CL := fun v => #[.int .i64 0, .int .i64 10, .int .i64 0, .slice none 0 0, v, .int .i64 M]) HR.out HD.out hgr LB.out)
        clear hrun hrow hgr
        have hc3 := D3.out.cell
        have hf3 := D3.out.frozen
        have hl3 := D3.out.lt
        go_wp2_with (at_builtin; refine append_step1 rfl (.tmp 131) (.tmp 133) 24 rfl _ _ _ W3 rfl rfl HRN.out ?_)
        go_roundw
        case rel => exact seen_round (CL := fun v => #[.int .i64 0, .int .i64 10, .int .i64 0, .slice none 0 0, v, .int .i64 M]) HJ.out HE.out HR.out HD.out HB.out GR.out LB.out HRW.out HGR.out rfl hlt HS2.out rfl
        case measure => simp [intOf]; omega
    · obtain ⟨a9, c9, rfl, hs9⟩ := own_sns HR.out
      have hEE := HE.out
      rw [rgI_end HN.out hlt, List.append_nil] at hEE
      rw [hEE] at HG
      have BL9 := Lib.hid (bl H1.out HB.out)
      have BZ9 := Lib.hid (B1.out.call HB.out)
      have DG := Lib.hid HD.out
      have I9 := Lib.hid (show NewI w1.heap.size wr none [] from NewI.nil _ _)
      have J9 := Lib.hid (show NewS w1.heap.size wr a9 acc from hs9.less (Nat.le_of_lt LB.out))
      have hA := (show ∀ i, wr.cell? ⟨w1.heap.size, i, none⟩ = (#[.int .i64 0, .int .i64 10, .int .i64 0, .slice none 0 0, .slice a9 acc.length c9, .int .i64 M][i]? : Option Value) from HD.out.cell)
      have hlt0 := HD.out.lt
      clear hEE hs9 HR HE HD SW HB GR HJ
      go_wp2_with fail
      clear hA hlt0
      cases hm : rmayB (⟨0, 10, 0, [], acc, M⟩)
      · have HP := Lib.hid (show rputOut (⟨0, 10, 0, [], acc, M⟩) = .tuple #[.string ⟨#[]⟩, .int .i64 2] by simp [rputOut, rputS, rputN, hm, str])
        have HX := Lib.hid (show GotR s.data.toList zeroR 2 by have := HG.out; rw [hm] at this; simpa using this)
        clear hm HG
        refine (rrefput_any (⟨0, 10, 0, [], acc, M⟩) none a9 0 c9 _ I9.out.1 J9.out.1).mono ?_
        rintro e w30 ⟨rfl, b3⟩
        rw [HP.out]
        have H3 := Lib.hid (bl BL9.out b3)
        have B3 := Lib.hid (BZ9.out.call b3)
        have R3 := Lib.hid (DG.out.call b3)
        have I3 := Lib.hid (I9.out.grown (r := none) (grown_below b3 none) (fun k hk => by cases hk))
        have J3 := Lib.hid (J9.out.grown (r := none) (grown_below b3 none) (fun k hk => by cases hk))
        clear b3 BZ9 DG I9 J9 BL9
        have hc := B3.out.cell
        have hf := B3.out.frozen
        have hl := B3.out.lt
        have hc2 := R3.out.cell
        have hf2 := R3.out.frozen
        have hl2 := R3.out.lt
        have n1 : w.heap.size ≠ w1.heap.size := Nat.ne_of_lt N1.out
        have n2 : w1.heap.size ≠ w.heap.size := Nat.ne_of_gt N1.out
        go_wp2_with fail
        refine bodyPost_ret (v := .tuple #[.agg #[.int .i64 0, .int .i64 0, .int .i64 0, .slice none 0 0, .slice none 0 0, .int .i64 0], .int .i64 2]) (by simp [results, Tryd.results17, go_sem, hc]) rfl ⟨zeroR, none, 0, none, 0, 2, rfl, HX.out, IntsAt.nil _ _, SnsAt.nil _ _, ?_⟩
        have T := H3.out
        repeat (with_reducible refine below_set ?_ (Nat.le_refl _) _ _)
        exact T
      · by_cases ht : textR (⟨0, 10, 0, [], acc, M⟩) = s.data.toList
        · have HP := Lib.hid (show rputOut (⟨0, 10, 0, [], acc, M⟩) = .tuple #[.string s, .int .i64 0] by simp [rputOut, rputS, rputN, hm, str, ht])
          have HX := Lib.hid (show GotR s.data.toList (⟨0, 10, 0, [], acc, M⟩) 0 by have := HG.out; rw [hm, decide_eq_true ht] at this; simpa using this)
          clear hm HG ht
          refine (rrefput_any (⟨0, 10, 0, [], acc, M⟩) none a9 0 c9 _ I9.out.1 J9.out.1).mono ?_
          rintro e w30 ⟨rfl, b3⟩
          rw [HP.out]
          have H3 := Lib.hid (bl BL9.out b3)
          have B3 := Lib.hid (BZ9.out.call b3)
          have R3 := Lib.hid (DG.out.call b3)
          have I3 := Lib.hid (I9.out.grown (r := none) (grown_below b3 none) (fun k hk => by cases hk))
          have J3 := Lib.hid (J9.out.grown (r := none) (grown_below b3 none) (fun k hk => by cases hk))
          clear b3 BZ9 DG I9 J9 BL9
          have hc := B3.out.cell
          have hf := B3.out.frozen
          have hl := B3.out.lt
          have hc2 := R3.out.cell
          have hf2 := R3.out.frozen
          have hl2 := R3.out.lt
          have n1 : w.heap.size ≠ w1.heap.size := Nat.ne_of_lt N1.out
          have n2 : w1.heap.size ≠ w.heap.size := Nat.ne_of_gt N1.out
          go_wp2_with fail
          refine bodyPost_ret (v := .tuple #[.agg #[.int .i64 0, .int .i64 10, .int .i64 0, .slice none 0 0, .slice a9 acc.length c9, .int .i64 M], .int .i64 0]) (by simp [results, Tryd.results17, go_sem, hc]) rfl ⟨⟨0, 10, 0, [], acc, M⟩, none, 0, a9, c9, 0, rfl, HX.out, ?_, ?_, ?_⟩
          · have T := I3.out
            refine NewI.to (n := w1.heap.size) ?_
            repeat (with_reducible refine NewI.set ?_ N1.out _ _)
            exact T
          · have T := J3.out
            refine NewS.to (n := w1.heap.size) ?_
            repeat (with_reducible refine NewS.set ?_ N1.out _ _)
            exact T
          · have T := H3.out
            repeat (with_reducible refine below_set ?_ (Nat.le_refl _) _ _)
            exact T
        · obtain ⟨A, hA⟩ : ∃ A : ByteArray, A = ⟨(textR (⟨0, 10, 0, [], acc, M⟩)).toArray⟩ := ⟨_, rfl⟩
          have HP := Lib.hid (show rputOut (⟨0, 10, 0, [], acc, M⟩) = .tuple #[.string A, .int .i64 0] by simp [rputOut, rputS, rputN, hm, str, hA])
          have HX := Lib.hid (show GotR s.data.toList zeroR 2 by have := HG.out; rw [hm, decide_eq_false ht] at this; simpa using this)
          have q1 : (A.toList == s.toList) = false := by
            rw [beq_eq_false_iff_ne, ByteArray.toList_eq, ByteArray.toList_eq, hA]
            exact ht
          have q2 : (A.toList != s.toList) = true := by rw [bne, q1]; rfl
          clear hm HG ht hA
          refine (rrefput_any (⟨0, 10, 0, [], acc, M⟩) none a9 0 c9 _ I9.out.1 J9.out.1).mono ?_
          rintro e w30 ⟨rfl, b3⟩
          rw [HP.out]
          have H3 := Lib.hid (bl BL9.out b3)
          have B3 := Lib.hid (BZ9.out.call b3)
          have R3 := Lib.hid (DG.out.call b3)
          have I3 := Lib.hid (I9.out.grown (r := none) (grown_below b3 none) (fun k hk => by cases hk))
          have J3 := Lib.hid (J9.out.grown (r := none) (grown_below b3 none) (fun k hk => by cases hk))
          clear b3 BZ9 DG I9 J9 BL9
          have hc := B3.out.cell
          have hf := B3.out.frozen
          have hl := B3.out.lt
          have hc2 := R3.out.cell
          have hf2 := R3.out.frozen
          have hl2 := R3.out.lt
          have n1 : w.heap.size ≠ w1.heap.size := Nat.ne_of_lt N1.out
          have n2 : w1.heap.size ≠ w.heap.size := Nat.ne_of_gt N1.out
          go_wp2_with fail
          refine bodyPost_ret (v := .tuple #[.agg #[.int .i64 0, .int .i64 0, .int .i64 0, .slice none 0 0, .slice none 0 0, .int .i64 0], .int .i64 2]) (by simp [results, Tryd.results17, go_sem, hc]) rfl ⟨zeroR, none, 0, none, 0, 2, rfl, HX.out, IntsAt.nil _ _, SnsAt.nil _ _, ?_⟩
          have T := H3.out
          repeat (with_reducible refine below_set ?_ (Nat.le_refl _) _ _)
          exact T
end
end Go.Proofs.YtcabeagmdfpdlaaDoor
/- The document's own Get, of texts: a look. -/
namespace Go.Proofs.YtcabeagmdfpdlaaDoor
open Go.ChangeShapes Go.WideShapes Go.ChangeAt Go.RowKit
set_option linter.unusedVariables false
open Go.RowKit Go
section
variable (s : ByteArray) (w : World) (hs : s.size ≤ 500000)
include hs
set_option maxRecDepth 100000 in
set_option maxHeartbeats 1000000 in
theorem refget_look (hne : words s.data.toList ≠ []) (hw : ¬ headW (words s.data.toList) = sError) (h9 : kindN (headW (words s.data.toList)) = 9) :
    Calls Tryd.prog 17 #[.string s] w (GetsR s.data.toList w) := by
  have HZ := Lib.hid (words_small s hs)
  have HG := Lib.hid (got_of (l := s.data.toList) (g := refR (words s.data.toList)) (ref_guess s.data.toList))
  have HS := Lib.hid (show s.size ≤ 1000000 by omega)
  have B0 := Lib.hid (Blk.new w 26 #[.int .i64 0, .int .i64 0, .int .i64 0, .slice none 0 0, .slice none 0 0, .int .i64 0])
  have H0 := Lib.hid (show Below w.heap.size w (w.alloc (.cells #[.int .i64 0, .int .i64 0, .int .i64 0, .slice none 0 0, .slice none 0 0, .int .i64 0] 26)) from (Below.refl _ _).alloc (Nat.le_refl _) _)
  clear hs
  go_enter Tryd.func17, Tryd.ntmps17
  go_wp2_with fail
  refine (refcut_any s _ HS.out).mono ?_
  rintro e w1 ⟨v1, rfl, hv1, b1⟩
  have H1 := Lib.hid (bl H0.out b1)
  have B1 := Lib.hid (B0.out.call b1)
  have N1 := Lib.hid (show w.heap.size < w1.heap.size from B1.out.lt)
  generalize words s.data.toList = ws at *
  clear b1 B0 H0
  obtain ⟨N, hN⟩ : ∃ N, ws.length = N := ⟨_, rfl⟩
  have HN := Lib.hid hN
  have SV := Lib.hid hv1
  obtain ⟨a1, c1, rfl, hl1, hh⟩ := hv1
  rw [hN]
  have hpos : 0 < N := by rw [← hN]; exact List.length_pos_iff.2 hne
  have hN2 : N ≤ 900000 := by have := HZ.out.2; omega
  obtain ⟨b, off, rfl, hb, hcell⟩ : ∃ b off, a1 = some ⟨b, off, none⟩ ∧ b < w1.heap.size ∧ ∀ i (hi : i < ws.length), w1.cell? ⟨b, off + i, none⟩ = some (str ws[i]) := by
    rcases hh with hh | hh
    · exact absurd hh hne
    · exact hh
  have h0 := hcell 0 (by omega)
  rw [show ws[0] = headW ws from by cases ws with | nil => exact absurd rfl hne | cons x r => rfl, Nat.add_zero] at h0
  unfold str at h0
  have HC := Lib.hid hcell
  have SV2 := Lib.hid (show Strs w1 (.slice (some ⟨b, off, none⟩) N c1) ws from by have h := SV.out; rw [hN] at h; exact h)
  clear SV hh hcell hl1 hN hne
  rw [show refR ws = ⟨0, 9, (numN (wat ws 1) : Int), refP ws, rgI (ws.drop (4 + (refP ws).length)), 0⟩ by unfold refR; rw [if_neg hw]; rw [if_neg (by omega), if_pos h9]] at HG
  have hb0 : (headW ws == [101, 114, 114, 111, 114]) = false := by rw [beq_eq_false_iff_ne]; exact hw
  clear hw
  have HK := Lib.hid (kindN_le (headW ws))
  generalize headW ws = x at *
  go_wp2_with fail
  refine (refkind_any x _).mono ?_
  rintro e w2 ⟨rfl, b2⟩
  have BW := Lib.hid (((Below.refl w1.heap.size w1).alloc (Nat.le_refl _) (.cells #[.int .i64 0, .int .i64 0, .int .i64 0, .slice none 0 0, .slice none 0 0, .int .i64 0] 26)).trans (b2.mono (by simp)))
  have DZ := Lib.hid ((Blk.new w1 26 #[.int .i64 0, .int .i64 0, .int .i64 0, .slice none 0 0, .slice none 0 0, .int .i64 0]).call b2)
  clear b2 h0 hb0
  generalize kindN x = k at *
  subst h9
  obtain ⟨M, hM⟩ : ∃ M : Int, (numN (wat ws 1) : Int) = M := ⟨_, rfl⟩
  rw [hM] at HG
  have HM := Lib.hid hM
  clear hM
  have hc := DZ.out.cell
  have hf := DZ.out.frozen
  have hl := DZ.out.lt
  have SW := Lib.hid (SV2.out.below (below_set BW.out (Nat.le_refl _) 1 (.int .i64 9)))
  have BBC := Lib.hid (below_set (below_set BW.out (Nat.le_refl _) 1 (.int .i64 9)) (Nat.le_refl _) 2 (.int .i64 M))
  have DBC := Lib.hid (show Blk ((w2.setCell ⟨w1.heap.size, 1, none⟩ (.int .i64 9)).setCell ⟨w1.heap.size, 2, none⟩ (.int .i64 M)) w1.heap.size 26 #[.int .i64 0, .int .i64 9, .int .i64 M, .slice none 0 0, .slice none 0 0, .int .i64 0] from (DZ.out.set_ 1 (.int .i64 9)).set_ 2 (.int .i64 M))
  have LC := Lib.hid DBC.out.lt
  go_wp2_with fail
  refine (refnum_any _ 1 HN.out SW.out HZ.out.1 (by decide) HZ.out.2).mono ?_
  rintro e w3 ⟨rfl, rfl⟩
  rw [HM.out]
  go_wp2_with fail
  clear hc hf hl SW BW DZ
  generalize (w2.setCell ⟨w1.heap.size, 1, none⟩ (.int .i64 9)).setCell ⟨w1.heap.size, 2, none⟩ (.int .i64 M) = wc at *
  go_loopw [6] (fun i wp => PlInv ws N (fun v => #[.int .i64 0, .int .i64 9, .int .i64 M, v, .slice none 0 0, .int .i64 0]) w1 wc i wp) (fun i _ => N + 3 - (intOf i).toNat)
  case atStart => exact pl_start hpos DBC.out BBC.out
  case round =>
    obtain ⟨wp, hwp⟩ : ∃ q, q = wr := ⟨_, rfl⟩
    subst hwp
    obtain ⟨ps, pv, pj, rfl, hJ, hE, hjN, hR, hD, hB, hGr⟩ := hrel
    by_cases hgo : pj < N ∧ ¬ wat ws pj = sItems
    · obtain ⟨hlt, hyn⟩ := hgo
      have HJ := Lib.hid hJ
      have HE := Lib.hid hE
      have HR := Lib.hid hR
      have HD := Lib.hid hD
      have HB := Lib.hid hB
      have GR := Lib.hid hGr
      have HS := Lib.hid (pl_at HN.out hlt hyn)
      have BDR := Lib.hid (show Below w1.heap.size w1 wp.drew from ⟨hB.os, hB.tape, hB.output, hB.size, hB.block⟩)
      have SW := Lib.hid (SV2.out.below BDR.out)
      have hA := (show ∀ i, wp.cell? ⟨w1.heap.size, i, none⟩ = (#[.int .i64 0, .int .i64 9, .int .i64 M, pv, .slice none 0 0, .int .i64 0][i]? : Option Value) from hD.cell)
      have hlt0 := hD.lt
      have hbl : b < wp.heap.size := Nat.lt_of_lt_of_le hb hB.size
      have hjj : pj ≤ 9000000000 := by omega
      have hy := (HB.out.cell (p := ⟨b, off + pj, none⟩) hb).trans (HC.out pj (by rw [HN.out]; exact hlt))
      rw [show ws[pj]'(by rw [HN.out]; exact hlt) = wat ws pj by simp only [wat, List.getD]; rw [List.getElem?_eq_getElem (by rw [HN.out]; exact hlt)]; rfl] at hy
      obtain ⟨X, hX⟩ : ∃ X : Int, (numN (wat ws pj) : Int) = X := ⟨_, rfl⟩
      have HXX := Lib.hid hX
      have HS2 := Lib.hid (show plOf (ws.drop pj) = X :: plOf (ws.drop (pj + 1)) by rw [HS.out, HXX.out])
      have hwr1 : IntKind.i64.wrap ((pj : Int) + 1) = (pj : Int) + 1 := IntWalk.i64_in _ (by omega)
      clear hX hJ hE hR hD hB hGr HS
      obtain ⟨y, hyy⟩ : ∃ y, wat ws pj = y := ⟨_, rfl⟩
      rw [hyy] at hy hyn
      have HYY := Lib.hid hyy
      clear hyy
      have z1 : (y == [105, 116, 101, 109, 115]) = false := by rw [beq_eq_false_iff_ne]; exact hyn
      have z2 : (y != [105, 116, 101, 109, 115]) = true := by rw [bne, z1]; rfl
      unfold str at hy
      clear hyn
      obtain ⟨v3, W3, hrun, hrow, hgr⟩ := append_int (W := wp.drew) HR.out.drew X (by have := HJ.out; omega) GR.out
      obtain ⟨a3, c3, rfl⟩ := own_form hrow
      have HRN := Lib.hid hrun
      have HRW := Lib.hid hrow
      have HGR := Lib.hid hgr
      have D3 := Lib.hid (pl_block (CL := fun v => #[.int .i64 0, .int .i64 9, .int .i64 M, v, .slice none 0 0, .int .i64 0]) HR.out HD.out hgr LC.out)
      clear hrun hrow hgr
      have hc3 := D3.out.cell
      have hf3 := D3.out.frozen
      have hl3 := D3.out.lt
      go_wp2_with fail
      refine wp_region_noPanic ?_
      refine wp_region_held_drew (S := (fun _ => True)) (by kernel_rfl) (by (first | (trivial))) (fun hHeld => ?_)
      refine wpAnyH_take (i := 0) (v := ?_) (by simp only [List.getElem?_toArray, List.getElem?_cons_zero]; rfl) (by kernel_rfl) (by kernel_rfl) (by kernel_rfl) (fun _ _ _ h => h) (Or.inl ⟨by rfl, ?_⟩) (by assumption) ?_
      rotate_left
      · (intro ww hSw; (try dsimp only at hSw); go_simp; (try with_reducible rfl))
      try simp only [Act.put, List.setIfInBounds_toArray, List.set_cons_zero, List.set_cons_succ]
      refine wpAnyH_take (i := 2) (v := ?_) (by simp only [List.getElem?_toArray, List.getElem?_cons_succ, List.getElem?_cons_zero]; rfl) (by kernel_rfl) (by kernel_rfl) (by kernel_rfl) (fun _ _ _ h => h) (Or.inl ⟨by rfl, ?_⟩) (by assumption) ?_
      rotate_left
      · (intro ww hSw; (try dsimp only at hSw); go_simp; (try with_reducible rfl))
      try simp only [Act.put, List.setIfInBounds_toArray, List.set_cons_zero, List.set_cons_succ]
      refine wpAnyH_take (i := 3) (v := ?_) (by simp only [List.getElem?_toArray, List.getElem?_cons_succ, List.getElem?_cons_zero]; rfl) (by kernel_rfl) (by kernel_rfl) (by kernel_rfl) (fun _ _ _ h => h) (Or.inl ⟨by rfl, ?_⟩) (by assumption) ?_
      rotate_left
      · (intro ww hSw; (try dsimp only at hSw); go_simp; (try with_reducible rfl))
      try simp only [Act.put, List.setIfInBounds_toArray, List.set_cons_zero, List.set_cons_succ]
      refine wpAnyH_ready (rs := [1, 4]) (by kernel_rfl) (by simp) (AllReadyH.cons (by simp only [List.getElem?_toArray, List.getElem?_cons_succ, List.getElem?_cons_zero]; rfl) (fun K hK => ?_) (AllReadyH.cons (by simp only [List.getElem?_toArray, List.getElem?_cons_succ, List.getElem?_cons_zero]; rfl) (fun K hK => ?_) AllReadyH.nil))
      ·
        go_simp
        try go_wp2_with fail
        refine hK.out _ _ (by (first | (trivial))) (fun hHeld => ?_)
        clear hK K
        try simp only [Act.put, List.setIfInBounds_toArray, List.set_cons_zero, List.set_cons_succ]
        refine wpAnyH_ready (rs := [4]) (by kernel_rfl) (by simp) (AllReadyH.cons (by simp only [List.getElem?_toArray, List.getElem?_cons_succ, List.getElem?_cons_zero]; rfl) (fun K hK => ?_) AllReadyH.nil)
        go_simp
        go_at_call 33; (with_reducible refine (refnum_int _ _ pj rfl HN.out SW.out HZ.out.1 hjj HZ.out.2).mono ?_); rintro e w9 ⟨rfl, rfl⟩; rw [HXX.out]
        try go_wp2_with fail
        refine hK.out _ _ (by (first | (trivial))) (fun hHeld => ?_)
        clear hK K
        try simp only [Act.put, List.setIfInBounds_toArray, List.set_cons_zero, List.set_cons_succ]
        refine wpAnyH_ready (rs := [5]) (by kernel_rfl) (by simp) (AllReadyH.cons (by simp only [List.getElem?_toArray, List.getElem?_cons_succ, List.getElem?_cons_zero]; rfl) (fun K hK => ?_) AllReadyH.nil)
        go_simp
        try go_wp2_with fail
        refine hK.out _ _ (by (first | (trivial))) (fun hHeld => ?_)
        clear hK K
        try simp only [Act.put, List.setIfInBounds_toArray, List.set_cons_zero, List.set_cons_succ]
        refine wpAnyH_ready (rs := [6]) (by kernel_rfl) (by simp) (AllReadyH.cons (by simp only [List.getElem?_toArray, List.getElem?_cons_succ, List.getElem?_cons_zero]; rfl) (fun K hK => ?_) AllReadyH.nil)
        refine step_append rfl (.tmp 73) (.tmp 77) 23 rfl _ _ _ W3 rfl rfl HRN.out ?_
        refine hK.out _ _ (by (first | (trivial))) (fun hHeld => ?_)
        clear hK K
        try simp only [Act.put, List.setIfInBounds_toArray, List.set_cons_zero, List.set_cons_succ]
        refine wpAnyH_take (i := 7) (v := ?_) (by simp only [List.getElem?_toArray, List.getElem?_cons_succ, List.getElem?_cons_zero]; rfl) (by kernel_rfl) (by kernel_rfl) (by kernel_rfl) (fun _ _ _ h => h) (Or.inl ⟨by rfl, ?_⟩) (by assumption) ?_
        rotate_left
        · (intro ww hSw; (try dsimp only at hSw); go_simp; (try with_reducible rfl))
        try simp only [Act.put, List.setIfInBounds_toArray, List.set_cons_zero, List.set_cons_succ]
        refine wpAnyH_ready (rs := [8]) (by kernel_rfl) (by simp) (AllReadyH.cons (by simp only [List.getElem?_toArray, List.getElem?_cons_succ, List.getElem?_cons_zero]; rfl) (fun K hK => ?_) AllReadyH.nil)
        go_simp
        try go_wp2_with fail
        refine hK.out _ _ (by (first | (trivial))) (fun hHeld => ?_)
        clear hK K
        try simp only [Act.put, List.setIfInBounds_toArray, List.set_cons_zero, List.set_cons_succ]
        refine wpAnyH_done (by kernel_rfl) ?_ _
        refine NoPanic.normal ?_
        go_wp2_with fail
        go_roundw
        case rel => exact pl_round (CL := fun v => #[.int .i64 0, .int .i64 9, .int .i64 M, v, .slice none 0 0, .int .i64 0]) HJ.out HE.out HR.out HD.out HB.out GR.out LC.out HRW.out HGR.out rfl hlt HS2.out rfl
        case measure => simp [intOf]; omega
      ·
        go_simp
        go_at_call 33; (with_reducible refine (refnum_int _ _ pj rfl HN.out SW.out HZ.out.1 hjj HZ.out.2).mono ?_); rintro e w9 ⟨rfl, rfl⟩; rw [HXX.out]
        try go_wp2_with fail
        refine hK.out _ _ (by (first | (trivial))) (fun hHeld => ?_)
        clear hK K
        try simp only [Act.put, List.setIfInBounds_toArray, List.set_cons_zero, List.set_cons_succ]
        refine wpAnyH_ready (rs := [1, 5]) (by kernel_rfl) (by simp) (AllReadyH.cons (by simp only [List.getElem?_toArray, List.getElem?_cons_succ, List.getElem?_cons_zero]; rfl) (fun K hK => ?_) (AllReadyH.cons (by simp only [List.getElem?_toArray, List.getElem?_cons_succ, List.getElem?_cons_zero]; rfl) (fun K hK => ?_) AllReadyH.nil))
        ·
          go_simp
          try go_wp2_with fail
          refine hK.out _ _ (by (first | (trivial))) (fun hHeld => ?_)
          clear hK K
          try simp only [Act.put, List.setIfInBounds_toArray, List.set_cons_zero, List.set_cons_succ]
          refine wpAnyH_ready (rs := [5]) (by kernel_rfl) (by simp) (AllReadyH.cons (by simp only [List.getElem?_toArray, List.getElem?_cons_succ, List.getElem?_cons_zero]; rfl) (fun K hK => ?_) AllReadyH.nil)
          go_simp
          try go_wp2_with fail
          refine hK.out _ _ (by (first | (trivial))) (fun hHeld => ?_)
          clear hK K
          try simp only [Act.put, List.setIfInBounds_toArray, List.set_cons_zero, List.set_cons_succ]
          refine wpAnyH_ready (rs := [6]) (by kernel_rfl) (by simp) (AllReadyH.cons (by simp only [List.getElem?_toArray, List.getElem?_cons_succ, List.getElem?_cons_zero]; rfl) (fun K hK => ?_) AllReadyH.nil)
          refine step_append rfl (.tmp 73) (.tmp 77) 23 rfl _ _ _ W3 rfl rfl HRN.out ?_
          refine hK.out _ _ (by (first | (trivial))) (fun hHeld => ?_)
          clear hK K
          try simp only [Act.put, List.setIfInBounds_toArray, List.set_cons_zero, List.set_cons_succ]
          refine wpAnyH_take (i := 7) (v := ?_) (by simp only [List.getElem?_toArray, List.getElem?_cons_succ, List.getElem?_cons_zero]; rfl) (by kernel_rfl) (by kernel_rfl) (by kernel_rfl) (fun _ _ _ h => h) (Or.inl ⟨by rfl, ?_⟩) (by assumption) ?_
          rotate_left
          · (intro ww hSw; (try dsimp only at hSw); go_simp; (try with_reducible rfl))
          try simp only [Act.put, List.setIfInBounds_toArray, List.set_cons_zero, List.set_cons_succ]
          refine wpAnyH_ready (rs := [8]) (by kernel_rfl) (by simp) (AllReadyH.cons (by simp only [List.getElem?_toArray, List.getElem?_cons_succ, List.getElem?_cons_zero]; rfl) (fun K hK => ?_) AllReadyH.nil)
          go_simp
          try go_wp2_with fail
          refine hK.out _ _ (by (first | (trivial))) (fun hHeld => ?_)
          clear hK K
          try simp only [Act.put, List.setIfInBounds_toArray, List.set_cons_zero, List.set_cons_succ]
          refine wpAnyH_done (by kernel_rfl) ?_ _
          refine NoPanic.normal ?_
          go_wp2_with fail
          go_roundw
          case rel => exact pl_round (CL := fun v => #[.int .i64 0, .int .i64 9, .int .i64 M, v, .slice none 0 0, .int .i64 0]) HJ.out HE.out HR.out HD.out HB.out GR.out LC.out HRW.out HGR.out rfl hlt HS2.out rfl
          case measure => simp [intOf]; omega
        ·
          go_simp
          try go_wp2_with fail
          refine hK.out _ _ (by (first | (trivial))) (fun hHeld => ?_)
          clear hK K
          try simp only [Act.put, List.setIfInBounds_toArray, List.set_cons_zero, List.set_cons_succ]
          refine wpAnyH_ready (rs := [1]) (by kernel_rfl) (by simp) (AllReadyH.cons (by simp only [List.getElem?_toArray, List.getElem?_cons_succ, List.getElem?_cons_zero]; rfl) (fun K hK => ?_) AllReadyH.nil)
          go_simp
          try go_wp2_with fail
          refine hK.out _ _ (by (first | (trivial))) (fun hHeld => ?_)
          clear hK K
          try simp only [Act.put, List.setIfInBounds_toArray, List.set_cons_zero, List.set_cons_succ]
          refine wpAnyH_ready (rs := [6]) (by kernel_rfl) (by simp) (AllReadyH.cons (by simp only [List.getElem?_toArray, List.getElem?_cons_succ, List.getElem?_cons_zero]; rfl) (fun K hK => ?_) AllReadyH.nil)
          refine step_append rfl (.tmp 73) (.tmp 77) 23 rfl _ _ _ W3 rfl rfl HRN.out ?_
          refine hK.out _ _ (by (first | (trivial))) (fun hHeld => ?_)
          clear hK K
          try simp only [Act.put, List.setIfInBounds_toArray, List.set_cons_zero, List.set_cons_succ]
          refine wpAnyH_take (i := 7) (v := ?_) (by simp only [List.getElem?_toArray, List.getElem?_cons_succ, List.getElem?_cons_zero]; rfl) (by kernel_rfl) (by kernel_rfl) (by kernel_rfl) (fun _ _ _ h => h) (Or.inl ⟨by rfl, ?_⟩) (by assumption) ?_
          rotate_left
          · (intro ww hSw; (try dsimp only at hSw); go_simp; (try with_reducible rfl))
          try simp only [Act.put, List.setIfInBounds_toArray, List.set_cons_zero, List.set_cons_succ]
          refine wpAnyH_ready (rs := [8]) (by kernel_rfl) (by simp) (AllReadyH.cons (by simp only [List.getElem?_toArray, List.getElem?_cons_succ, List.getElem?_cons_zero]; rfl) (fun K hK => ?_) AllReadyH.nil)
          go_simp
          try go_wp2_with fail
          refine hK.out _ _ (by (first | (trivial))) (fun hHeld => ?_)
          clear hK K
          try simp only [Act.put, List.setIfInBounds_toArray, List.set_cons_zero, List.set_cons_succ]
          refine wpAnyH_done (by kernel_rfl) ?_ _
          refine NoPanic.normal ?_
          go_wp2_with fail
          go_roundw
          case rel => exact pl_round (CL := fun v => #[.int .i64 0, .int .i64 9, .int .i64 M, v, .slice none 0 0, .int .i64 0]) HJ.out HE.out HR.out HD.out HB.out GR.out LC.out HRW.out HGR.out rfl hlt HS2.out rfl
          case measure => simp [intOf]; omega
    · obtain ⟨a8, c8, rfl, hi8⟩ := own_ints hR
      have hpe : plOf (ws.drop pj) = [] := by
        by_cases hlt : pj < N
        · exact pl_stop HN.out hlt (Decidable.byContradiction fun h => hgo ⟨hlt, h⟩)
        · exact pl_end HN.out hlt
      rw [hpe, List.append_nil] at hE
      rw [hE, show 4 + ps.length = pj + 1 by omega] at HG
      have IP := Lib.hid (show NewI (w1.heap.size + 1) wp a8 ps from hi8.less LC.out)
      have LB := Lib.hid (show w1.heap.size < wp.heap.size from hD.lt)
      have BBX := Lib.hid hB
      have DBX := Lib.hid hD
      have hA := (show ∀ i, wp.cell? ⟨w1.heap.size, i, none⟩ = (#[.int .i64 0, .int .i64 9, .int .i64 M, .slice a8 ps.length c8, .slice none 0 0, .int .i64 0][i]? : Option Value) from hD.cell)
      have hlt0 := hD.lt
      have hwq : IntKind.i64.wrap ((pj : Int) + 1) = (pj : Int) + 1 := IntWalk.i64_in _ (by omega)
      have HE := Lib.hid hE
      clear hpe hi8 hJ hR hD hB hGr hE
      by_cases hlt : pj < N
      · have hyn : wat ws pj = sItems := Decidable.byContradiction fun h => hgo ⟨hlt, h⟩
        have hbl : b < wp.heap.size := Nat.lt_of_lt_of_le hb BBX.out.size
        have hy := (BBX.out.cell (p := ⟨b, off + pj, none⟩) hb).trans (HC.out pj (by rw [HN.out]; exact hlt))
        rw [show ws[pj]'(by rw [HN.out]; exact hlt) = wat ws pj by simp only [wat, List.getD]; rw [List.getElem?_eq_getElem (by rw [HN.out]; exact hlt)]; rfl, hyn] at hy
        unfold str sItems at hy
        clear hyn hgo
        go_wp2_with fail
        clear hA hlt0 hy hbl
        go_loopw [6, 7] (fun i _ wr => ItInv ws N (pj + 1) (fun v => #[.int .i64 0, .int .i64 9, .int .i64 M, .slice a8 ps.length c8, v, .int .i64 0]) w1 wp i wr) (fun i _ _ => N + 3 - (intOf i).toNat)
        case atStart => exact it_start (by rfl) (by omega) DBX.out BBX.out
        case round =>
          obtain ⟨acc, v, j, rfl, hJ, hE, hjN, hR, hD, hB, hGr⟩ := hrel
          have HJ := Lib.hid hJ
          have HE := Lib.hid hE
          have HR := Lib.hid hR
          have HD := Lib.hid hD
          have HB := Lib.hid hB
          have GR := Lib.hid hGr
          have SW := Lib.hid (SV2.out.below hB)
          clear hJ hE hR hD hB hGr
          by_cases hlt : j < N
          · have hA := (show ∀ i, wr.cell? ⟨w1.heap.size, i, none⟩ = (#[.int .i64 0, .int .i64 9, .int .i64 M, .slice a8 ps.length c8, v, .int .i64 0][i]? : Option Value) from HD.out.cell)
            have hlt0 := HD.out.lt
            have hbl : b < wr.heap.size := Nat.lt_of_lt_of_le hb HB.out.size
            have hSS := rgI_at HN.out hlt
            obtain ⟨X, hX⟩ : ∃ X : Int, (numN (wat ws j) : Int) = X := ⟨_, rfl⟩
            obtain ⟨Z, hZ⟩ : ∃ Z : Int, (numN (wat ws (j + 2)) : Int) = Z := ⟨_, rfl⟩
            rw [hX, hZ] at hSS
            have HXX := Lib.hid hX
            have HZZ := Lib.hid hZ
            have hwr1 : IntKind.i64.wrap ((j : Int) + 1) = (j : Int) + 1 := IntWalk.i64_in _ (by omega)
            have hwr2 : IntKind.i64.wrap ((j : Int) + 2) = (j : Int) + 2 := IntWalk.i64_in _ (by omega)
            have hwr3 : IntKind.i64.wrap ((j : Int) + 3) = (j : Int) + 3 := IntWalk.i64_in _ (by omega)
            clear hX hZ
            by_cases h1 : j + 1 < N
            · have hy := (HB.out.cell (p := ⟨b, off + (j + 1), none⟩) hb).trans (HC.out (j + 1) (by rw [HN.out]; exact h1))
              rw [show ws[j + 1]'(by rw [HN.out]; exact h1) = wat ws (j + 1) by simp only [wat, List.getD]; rw [List.getElem?_eq_getElem (by rw [HN.out]; exact h1)]; rfl] at hy
              generalize wat ws (j + 1) = y at *
              have HS := Lib.hid hSS
              clear hSS
              unfold str at hy
              by_cases y1 : y = [119, 105, 116, 104]
              · subst y1
                have HKK := Lib.hid (show kOf [119, 105, 116, 104] = 1 by decide)
                go_wp2_with fail
                refine (refnum_int _ _ j rfl HN.out SW.out HZ.out.1 (by omega) HZ.out.2).mono ?_
                rintro e w9 ⟨rfl, rfl⟩
                rw [HXX.out]
                go_wp2_with fail
                refine (refnum_int _ _ (j + 2) rfl HN.out SW.out HZ.out.1 (by omega) HZ.out.2).mono ?_
                rintro e w9 ⟨rfl, rfl⟩
                rw [HZZ.out]
                have HS2 := Lib.hid (show rgI (ws.drop j) = ⟨X, 1, Z⟩ :: rgI (ws.drop (j + 3)) by rw [HS.out, HKK.out])
                obtain ⟨v3, W3, hrun, hrow, hgr⟩ := append_seen_n (W := wr.alloc (.cells #[.int .i64 X, .int .i64 1, .int .i64 Z] 46)) (m := wr.heap.size + 1) (by simp) (HR.out.alloc _) X 1 Z (by have := HJ.out; omega) (by have := GR.out.size; simp; omega)
                obtain ⟨a3, c3, rfl⟩ := own_form hrow
                have HRN := Lib.hid hrun
                have HRW := Lib.hid hrow
                have HGR := Lib.hid hgr
                have D3 := Lib.hid (seen_block (CL := fun v => #[.int .i64 0, .int .i64 9, .int .i64 M, .slice a8 ps.length c8, v, .int .i64 0]) HR.out HD.out hgr LB.out)
                clear hrun hrow hgr
                have hc3 := D3.out.cell
                have hf3 := D3.out.frozen
                have hl3 := D3.out.lt
                go_wp2_with (at_builtin; refine append_step1 rfl (.tmp 131) (.tmp 133) 24 rfl _ _ _ W3 rfl rfl HRN.out ?_)
                go_roundw
                case rel => exact seen_round (CL := fun v => #[.int .i64 0, .int .i64 9, .int .i64 M, .slice a8 ps.length c8, v, .int .i64 0]) HJ.out HE.out HR.out HD.out HB.out GR.out LB.out HRW.out HGR.out rfl hlt HS2.out rfl
                case measure => simp [intOf]; omega
              · by_cases y2 : y = [98, 111, 120]
                · subst y2
                  have HKK := Lib.hid (show kOf [98, 111, 120] = 2 by decide)
                  clear y1
                  go_wp2_with fail
                  refine (refnum_int _ _ j rfl HN.out SW.out HZ.out.1 (by omega) HZ.out.2).mono ?_
                  rintro e w9 ⟨rfl, rfl⟩
                  rw [HXX.out]
                  go_wp2_with fail
                  refine (refnum_int _ _ (j + 2) rfl HN.out SW.out HZ.out.1 (by omega) HZ.out.2).mono ?_
                  rintro e w9 ⟨rfl, rfl⟩
                  rw [HZZ.out]
                  have HS2 := Lib.hid (show rgI (ws.drop j) = ⟨X, 2, Z⟩ :: rgI (ws.drop (j + 3)) by rw [HS.out, HKK.out])
                  obtain ⟨v3, W3, hrun, hrow, hgr⟩ := append_seen_n (W := wr.alloc (.cells #[.int .i64 X, .int .i64 2, .int .i64 Z] 46)) (m := wr.heap.size + 1) (by simp) (HR.out.alloc _) X 2 Z (by have := HJ.out; omega) (by have := GR.out.size; simp; omega)
                  obtain ⟨a3, c3, rfl⟩ := own_form hrow
                  have HRN := Lib.hid hrun
                  have HRW := Lib.hid hrow
                  have HGR := Lib.hid hgr
                  have D3 := Lib.hid (seen_block (CL := fun v => #[.int .i64 0, .int .i64 9, .int .i64 M, .slice a8 ps.length c8, v, .int .i64 0]) HR.out HD.out hgr LB.out)
                  clear hrun hrow hgr
                  have hc3 := D3.out.cell
                  have hf3 := D3.out.frozen
                  have hl3 := D3.out.lt
                  go_wp2_with (at_builtin; refine append_step1 rfl (.tmp 131) (.tmp 133) 24 rfl _ _ _ W3 rfl rfl HRN.out ?_)
                  go_roundw
                  case rel => exact seen_round (CL := fun v => #[.int .i64 0, .int .i64 9, .int .i64 M, .slice a8 ps.length c8, v, .int .i64 0]) HJ.out HE.out HR.out HD.out HB.out GR.out LB.out HRW.out HGR.out rfl hlt HS2.out rfl
                  case measure => simp [intOf]; omega
                · have HKK := Lib.hid (show kOf y = 0 by unfold kOf; rw [if_neg y1, if_neg y2])
                  have z1 : (y == [119, 105, 116, 104]) = false := by rw [beq_eq_false_iff_ne]; exact y1
                  have z2 : (y == [98, 111, 120]) = false := by rw [beq_eq_false_iff_ne]; exact y2
                  clear y1 y2
                  go_wp2_with fail
                  refine (refnum_int _ _ j rfl HN.out SW.out HZ.out.1 (by omega) HZ.out.2).mono ?_
                  rintro e w9 ⟨rfl, rfl⟩
                  rw [HXX.out]
                  go_wp2_with fail
                  refine (refnum_int _ _ (j + 2) rfl HN.out SW.out HZ.out.1 (by omega) HZ.out.2).mono ?_
                  rintro e w9 ⟨rfl, rfl⟩
                  rw [HZZ.out]
                  have HS2 := Lib.hid (show rgI (ws.drop j) = ⟨X, 0, Z⟩ :: rgI (ws.drop (j + 3)) by rw [HS.out, HKK.out])
                  obtain ⟨v3, W3, hrun, hrow, hgr⟩ := append_seen_n (W := wr.alloc (.cells #[.int .i64 X, .int .i64 0, .int .i64 Z] 46)) (m := wr.heap.size + 1) (by simp) (HR.out.alloc _) X 0 Z (by have := HJ.out; omega) (by have := GR.out.size; simp; omega)
                  obtain ⟨a3, c3, rfl⟩ := own_form hrow
                  have HRN := Lib.hid hrun
                  have HRW := Lib.hid hrow
                  have HGR := Lib.hid hgr
                  have D3 := Lib.hid (seen_block (CL := fun v => #[.int .i64 0, .int .i64 9, .int .i64 M, .slice a8 ps.length c8, v, .int .i64 0]) HR.out HD.out hgr LB.out)
                  clear hrun hrow hgr
                  have hc3 := D3.out.cell
                  have hf3 := D3.out.frozen
                  have hl3 := D3.out.lt
                  go_wp2_with (at_builtin; refine append_step1 rfl (.tmp 131) (.tmp 133) 24 rfl _ _ _ W3 rfl rfl HRN.out ?_)
                  go_roundw
                  case rel => exact seen_round (CL := fun v => #[.int .i64 0, .int .i64 9, .int .i64 M, .slice a8 ps.length c8, v, .int .i64 0]) HJ.out HE.out HR.out HD.out HB.out GR.out LB.out HRW.out HGR.out rfl hlt HS2.out rfl
                  case measure => simp [intOf]; omega
            · have HKK := Lib.hid (show kOf (wat ws (j + 1)) = 0 by simp only [wat, List.getD]; rw [List.getElem?_eq_none (by rw [HN.out]; omega)]; exact kOf_nil)
              generalize wat ws (j + 1) = y at *
              have HS := Lib.hid hSS
              clear hSS
              go_wp2_with fail
              refine (refnum_int _ _ j rfl HN.out SW.out HZ.out.1 (by omega) HZ.out.2).mono ?_
              rintro e w9 ⟨rfl, rfl⟩
              rw [HXX.out]
              go_wp2_with fail
              refine (refnum_int _ _ (j + 2) rfl HN.out SW.out HZ.out.1 (by omega) HZ.out.2).mono ?_
              rintro e w9 ⟨rfl, rfl⟩
              rw [HZZ.out]
              have HS2 := Lib.hid (show rgI (ws.drop j) = ⟨X, 0, Z⟩ :: rgI (ws.drop (j + 3)) by rw [HS.out, HKK.out])
              obtain ⟨v3, W3, hrun, hrow, hgr⟩ := append_seen_n (W := wr.alloc (.cells #[.int .i64 X, .int .i64 0, .int .i64 Z] 46)) (m := wr.heap.size + 1) (by simp) (HR.out.alloc _) X 0 Z (by have := HJ.out; omega) (by have := GR.out.size; simp; omega)
              obtain ⟨a3, c3, rfl⟩ := own_form hrow
              have HRN := Lib.hid hrun
              have HRW := Lib.hid hrow
              have HGR := Lib.hid hgr
              have D3 := Lib.hid (seen_block (CL := fun v => #[.int .i64 0, .int .i64 9, .int .i64 M, .slice a8 ps.length c8, v, .int .i64 0]) HR.out HD.out hgr LB.out)
              clear hrun hrow hgr
              have hc3 := D3.out.cell
              have hf3 := D3.out.frozen
              have hl3 := D3.out.lt
              go_wp2_with (at_builtin; refine append_step1 rfl (.tmp 131) (.tmp 133) 24 rfl _ _ _ W3 rfl rfl HRN.out ?_)
              go_roundw
              case rel => exact seen_round (CL := fun v => #[.int .i64 0, .int .i64 9, .int .i64 M, .slice a8 ps.length c8, v, .int .i64 0]) HJ.out HE.out HR.out HD.out HB.out GR.out LB.out HRW.out HGR.out rfl hlt HS2.out rfl
              case measure => simp [intOf]; omega
          · obtain ⟨a9, c9, rfl, hs9⟩ := own_sns HR.out
            have hEE := HE.out
            rw [rgI_end HN.out hlt, List.append_nil] at hEE
            rw [hEE] at HG
            have BL9 := Lib.hid (bl H1.out HB.out)
            have BZ9 := Lib.hid (B1.out.call HB.out)
            have DG := Lib.hid HD.out
            have I9 := Lib.hid (show NewI w1.heap.size wr a8 ps from (IP.out.grown GR.out (fun k hk => by have := Option.some.inj hk; omega)).less (Nat.le_succ _))
            have J9 := Lib.hid (show NewS w1.heap.size wr a9 acc from hs9.less (Nat.le_of_lt LB.out))
            have hA := (show ∀ i, wr.cell? ⟨w1.heap.size, i, none⟩ = (#[.int .i64 0, .int .i64 9, .int .i64 M, .slice a8 ps.length c8, .slice a9 acc.length c9, .int .i64 0][i]? : Option Value) from HD.out.cell)
            have hlt0 := HD.out.lt
            clear hEE hs9 HR HE HD SW HB GR HJ
            go_wp2_with fail
            clear hA hlt0
            cases hm : rmayB (⟨0, 9, M, ps, acc, 0⟩)
            · have HP := Lib.hid (show rputOut (⟨0, 9, M, ps, acc, 0⟩) = .tuple #[.string ⟨#[]⟩, .int .i64 2] by simp [rputOut, rputS, rputN, hm, str])
              have HX := Lib.hid (show GotR s.data.toList zeroR 2 by have := HG.out; rw [hm] at this; simpa using this)
              clear hm HG
              refine (rrefput_any (⟨0, 9, M, ps, acc, 0⟩) a8 a9 c8 c9 _ I9.out.1 J9.out.1).mono ?_
              rintro e w30 ⟨rfl, b3⟩
              rw [HP.out]
              have H3 := Lib.hid (bl BL9.out b3)
              have B3 := Lib.hid (BZ9.out.call b3)
              have R3 := Lib.hid (DG.out.call b3)
              have I3 := Lib.hid (I9.out.grown (r := none) (grown_below b3 none) (fun k hk => by cases hk))
              have J3 := Lib.hid (J9.out.grown (r := none) (grown_below b3 none) (fun k hk => by cases hk))
              clear b3 BZ9 DG I9 J9 BL9
              have hc := B3.out.cell
              have hf := B3.out.frozen
              have hl := B3.out.lt
              have hc2 := R3.out.cell
              have hf2 := R3.out.frozen
              have hl2 := R3.out.lt
              have n1 : w.heap.size ≠ w1.heap.size := Nat.ne_of_lt N1.out
              have n2 : w1.heap.size ≠ w.heap.size := Nat.ne_of_gt N1.out
              go_wp2_with fail
              refine bodyPost_ret (v := .tuple #[.agg #[.int .i64 0, .int .i64 0, .int .i64 0, .slice none 0 0, .slice none 0 0, .int .i64 0], .int .i64 2]) (by simp [results, Tryd.results17, go_sem, hc]) rfl ⟨zeroR, none, 0, none, 0, 2, rfl, HX.out, IntsAt.nil _ _, SnsAt.nil _ _, ?_⟩
              have T := H3.out
              repeat (with_reducible refine below_set ?_ (Nat.le_refl _) _ _)
              exact T
            · by_cases ht : textR (⟨0, 9, M, ps, acc, 0⟩) = s.data.toList
              · have HP := Lib.hid (show rputOut (⟨0, 9, M, ps, acc, 0⟩) = .tuple #[.string s, .int .i64 0] by simp [rputOut, rputS, rputN, hm, str, ht])
                have HX := Lib.hid (show GotR s.data.toList (⟨0, 9, M, ps, acc, 0⟩) 0 by have := HG.out; rw [hm, decide_eq_true ht] at this; simpa using this)
                clear hm HG ht
                refine (rrefput_any (⟨0, 9, M, ps, acc, 0⟩) a8 a9 c8 c9 _ I9.out.1 J9.out.1).mono ?_
                rintro e w30 ⟨rfl, b3⟩
                rw [HP.out]
                have H3 := Lib.hid (bl BL9.out b3)
                have B3 := Lib.hid (BZ9.out.call b3)
                have R3 := Lib.hid (DG.out.call b3)
                have I3 := Lib.hid (I9.out.grown (r := none) (grown_below b3 none) (fun k hk => by cases hk))
                have J3 := Lib.hid (J9.out.grown (r := none) (grown_below b3 none) (fun k hk => by cases hk))
                clear b3 BZ9 DG I9 J9 BL9
                have hc := B3.out.cell
                have hf := B3.out.frozen
                have hl := B3.out.lt
                have hc2 := R3.out.cell
                have hf2 := R3.out.frozen
                have hl2 := R3.out.lt
                have n1 : w.heap.size ≠ w1.heap.size := Nat.ne_of_lt N1.out
                have n2 : w1.heap.size ≠ w.heap.size := Nat.ne_of_gt N1.out
                go_wp2_with fail
                refine bodyPost_ret (v := .tuple #[.agg #[.int .i64 0, .int .i64 9, .int .i64 M, .slice a8 ps.length c8, .slice a9 acc.length c9, .int .i64 0], .int .i64 0]) (by simp [results, Tryd.results17, go_sem, hc]) rfl ⟨⟨0, 9, M, ps, acc, 0⟩, a8, c8, a9, c9, 0, rfl, HX.out, ?_, ?_, ?_⟩
                · have T := I3.out
                  refine NewI.to (n := w1.heap.size) ?_
                  repeat (with_reducible refine NewI.set ?_ N1.out _ _)
                  exact T
                · have T := J3.out
                  refine NewS.to (n := w1.heap.size) ?_
                  repeat (with_reducible refine NewS.set ?_ N1.out _ _)
                  exact T
                · have T := H3.out
                  repeat (with_reducible refine below_set ?_ (Nat.le_refl _) _ _)
                  exact T
              · obtain ⟨A, hA⟩ : ∃ A : ByteArray, A = ⟨(textR (⟨0, 9, M, ps, acc, 0⟩)).toArray⟩ := ⟨_, rfl⟩
                have HP := Lib.hid (show rputOut (⟨0, 9, M, ps, acc, 0⟩) = .tuple #[.string A, .int .i64 0] by simp [rputOut, rputS, rputN, hm, str, hA])
                have HX := Lib.hid (show GotR s.data.toList zeroR 2 by have := HG.out; rw [hm, decide_eq_false ht] at this; simpa using this)
                have q1 : (A.toList == s.toList) = false := by
                  rw [beq_eq_false_iff_ne, ByteArray.toList_eq, ByteArray.toList_eq, hA]
                  exact ht
                have q2 : (A.toList != s.toList) = true := by rw [bne, q1]; rfl
                clear hm HG ht hA
                refine (rrefput_any (⟨0, 9, M, ps, acc, 0⟩) a8 a9 c8 c9 _ I9.out.1 J9.out.1).mono ?_
                rintro e w30 ⟨rfl, b3⟩
                rw [HP.out]
                have H3 := Lib.hid (bl BL9.out b3)
                have B3 := Lib.hid (BZ9.out.call b3)
                have R3 := Lib.hid (DG.out.call b3)
                have I3 := Lib.hid (I9.out.grown (r := none) (grown_below b3 none) (fun k hk => by cases hk))
                have J3 := Lib.hid (J9.out.grown (r := none) (grown_below b3 none) (fun k hk => by cases hk))
                clear b3 BZ9 DG I9 J9 BL9
                have hc := B3.out.cell
                have hf := B3.out.frozen
                have hl := B3.out.lt
                have hc2 := R3.out.cell
                have hf2 := R3.out.frozen
                have hl2 := R3.out.lt
                have n1 : w.heap.size ≠ w1.heap.size := Nat.ne_of_lt N1.out
                have n2 : w1.heap.size ≠ w.heap.size := Nat.ne_of_gt N1.out
                go_wp2_with fail
                refine bodyPost_ret (v := .tuple #[.agg #[.int .i64 0, .int .i64 0, .int .i64 0, .slice none 0 0, .slice none 0 0, .int .i64 0], .int .i64 2]) (by simp [results, Tryd.results17, go_sem, hc]) rfl ⟨zeroR, none, 0, none, 0, 2, rfl, HX.out, IntsAt.nil _ _, SnsAt.nil _ _, ?_⟩
                have T := H3.out
                repeat (with_reducible refine below_set ?_ (Nat.le_refl _) _ _)
                exact T
      · clear hgo
        go_wp2_with fail
        clear hA hlt0
        go_loopw [6, 7] (fun i _ wr => ItInv ws N (pj + 1) (fun v => #[.int .i64 0, .int .i64 9, .int .i64 M, .slice a8 ps.length c8, v, .int .i64 0]) w1 wp i wr) (fun i _ _ => N + 3 - (intOf i).toNat)
        case atStart => exact it_start (by rfl) (by omega) DBX.out BBX.out
        case round =>
          obtain ⟨acc, v, j, rfl, hJ, hE, hjN, hR, hD, hB, hGr⟩ := hrel
          have HJ := Lib.hid hJ
          have HE := Lib.hid hE
          have HR := Lib.hid hR
          have HD := Lib.hid hD
          have HB := Lib.hid hB
          have GR := Lib.hid hGr
          have SW := Lib.hid (SV2.out.below hB)
          clear hJ hE hR hD hB hGr
          by_cases hlt : j < N
          · have hA := (show ∀ i, wr.cell? ⟨w1.heap.size, i, none⟩ = (#[.int .i64 0, .int .i64 9, .int .i64 M, .slice a8 ps.length c8, v, .int .i64 0][i]? : Option Value) from HD.out.cell)
            have hlt0 := HD.out.lt
            have hbl : b < wr.heap.size := Nat.lt_of_lt_of_le hb HB.out.size
            have hSS := rgI_at HN.out hlt
            obtain ⟨X, hX⟩ : ∃ X : Int, (numN (wat ws j) : Int) = X := ⟨_, rfl⟩
            obtain ⟨Z, hZ⟩ : ∃ Z : Int, (numN (wat ws (j + 2)) : Int) = Z := ⟨_, rfl⟩
            rw [hX, hZ] at hSS
            have HXX := Lib.hid hX
            have HZZ := Lib.hid hZ
            have hwr1 : IntKind.i64.wrap ((j : Int) + 1) = (j : Int) + 1 := IntWalk.i64_in _ (by omega)
            have hwr2 : IntKind.i64.wrap ((j : Int) + 2) = (j : Int) + 2 := IntWalk.i64_in _ (by omega)
            have hwr3 : IntKind.i64.wrap ((j : Int) + 3) = (j : Int) + 3 := IntWalk.i64_in _ (by omega)
            clear hX hZ
            by_cases h1 : j + 1 < N
            · have hy := (HB.out.cell (p := ⟨b, off + (j + 1), none⟩) hb).trans (HC.out (j + 1) (by rw [HN.out]; exact h1))
              rw [show ws[j + 1]'(by rw [HN.out]; exact h1) = wat ws (j + 1) by simp only [wat, List.getD]; rw [List.getElem?_eq_getElem (by rw [HN.out]; exact h1)]; rfl] at hy
              generalize wat ws (j + 1) = y at *
              have HS := Lib.hid hSS
              clear hSS
              unfold str at hy
              by_cases y1 : y = [119, 105, 116, 104]
              · subst y1
                have HKK := Lib.hid (show kOf [119, 105, 116, 104] = 1 by decide)
                go_wp2_with fail
                refine (refnum_int _ _ j rfl HN.out SW.out HZ.out.1 (by omega) HZ.out.2).mono ?_
                rintro e w9 ⟨rfl, rfl⟩
                rw [HXX.out]
                go_wp2_with fail
                refine (refnum_int _ _ (j + 2) rfl HN.out SW.out HZ.out.1 (by omega) HZ.out.2).mono ?_
                rintro e w9 ⟨rfl, rfl⟩
                rw [HZZ.out]
                have HS2 := Lib.hid (show rgI (ws.drop j) = ⟨X, 1, Z⟩ :: rgI (ws.drop (j + 3)) by rw [HS.out, HKK.out])
                obtain ⟨v3, W3, hrun, hrow, hgr⟩ := append_seen_n (W := wr.alloc (.cells #[.int .i64 X, .int .i64 1, .int .i64 Z] 46)) (m := wr.heap.size + 1) (by simp) (HR.out.alloc _) X 1 Z (by have := HJ.out; omega) (by have := GR.out.size; simp; omega)
                obtain ⟨a3, c3, rfl⟩ := own_form hrow
                have HRN := Lib.hid hrun
                have HRW := Lib.hid hrow
                have HGR := Lib.hid hgr
                have D3 := Lib.hid (seen_block (CL := fun v => #[.int .i64 0, .int .i64 9, .int .i64 M, .slice a8 ps.length c8, v, .int .i64 0]) HR.out HD.out hgr LB.out)
                clear hrun hrow hgr
                have hc3 := D3.out.cell
                have hf3 := D3.out.frozen
                have hl3 := D3.out.lt
                go_wp2_with (at_builtin; refine append_step1 rfl (.tmp 131) (.tmp 133) 24 rfl _ _ _ W3 rfl rfl HRN.out ?_)
                go_roundw
                case rel => exact seen_round (CL := fun v => #[.int .i64 0, .int .i64 9, .int .i64 M, .slice a8 ps.length c8, v, .int .i64 0]) HJ.out HE.out HR.out HD.out HB.out GR.out LB.out HRW.out HGR.out rfl hlt HS2.out rfl
                case measure => simp [intOf]; omega
              · by_cases y2 : y = [98, 111, 120]
                · subst y2
                  have HKK := Lib.hid (show kOf [98, 111, 120] = 2 by decide)
                  clear y1
                  go_wp2_with fail
                  refine (refnum_int _ _ j rfl HN.out SW.out HZ.out.1 (by omega) HZ.out.2).mono ?_
                  rintro e w9 ⟨rfl, rfl⟩
                  rw [HXX.out]
                  go_wp2_with fail
                  refine (refnum_int _ _ (j + 2) rfl HN.out SW.out HZ.out.1 (by omega) HZ.out.2).mono ?_
                  rintro e w9 ⟨rfl, rfl⟩
                  rw [HZZ.out]
                  have HS2 := Lib.hid (show rgI (ws.drop j) = ⟨X, 2, Z⟩ :: rgI (ws.drop (j + 3)) by rw [HS.out, HKK.out])
                  obtain ⟨v3, W3, hrun, hrow, hgr⟩ := append_seen_n (W := wr.alloc (.cells #[.int .i64 X, .int .i64 2, .int .i64 Z] 46)) (m := wr.heap.size + 1) (by simp) (HR.out.alloc _) X 2 Z (by have := HJ.out; omega) (by have := GR.out.size; simp; omega)
                  obtain ⟨a3, c3, rfl⟩ := own_form hrow
                  have HRN := Lib.hid hrun
                  have HRW := Lib.hid hrow
                  have HGR := Lib.hid hgr
                  have D3 := Lib.hid (seen_block (CL := fun v => #[.int .i64 0, .int .i64 9, .int .i64 M, .slice a8 ps.length c8, v, .int .i64 0]) HR.out HD.out hgr LB.out)
                  clear hrun hrow hgr
                  have hc3 := D3.out.cell
                  have hf3 := D3.out.frozen
                  have hl3 := D3.out.lt
                  go_wp2_with (at_builtin; refine append_step1 rfl (.tmp 131) (.tmp 133) 24 rfl _ _ _ W3 rfl rfl HRN.out ?_)
                  go_roundw
                  case rel => exact seen_round (CL := fun v => #[.int .i64 0, .int .i64 9, .int .i64 M, .slice a8 ps.length c8, v, .int .i64 0]) HJ.out HE.out HR.out HD.out HB.out GR.out LB.out HRW.out HGR.out rfl hlt HS2.out rfl
                  case measure => simp [intOf]; omega
                · have HKK := Lib.hid (show kOf y = 0 by unfold kOf; rw [if_neg y1, if_neg y2])
                  have z1 : (y == [119, 105, 116, 104]) = false := by rw [beq_eq_false_iff_ne]; exact y1
                  have z2 : (y == [98, 111, 120]) = false := by rw [beq_eq_false_iff_ne]; exact y2
                  clear y1 y2
                  go_wp2_with fail
                  refine (refnum_int _ _ j rfl HN.out SW.out HZ.out.1 (by omega) HZ.out.2).mono ?_
                  rintro e w9 ⟨rfl, rfl⟩
                  rw [HXX.out]
                  go_wp2_with fail
                  refine (refnum_int _ _ (j + 2) rfl HN.out SW.out HZ.out.1 (by omega) HZ.out.2).mono ?_
                  rintro e w9 ⟨rfl, rfl⟩
                  rw [HZZ.out]
                  have HS2 := Lib.hid (show rgI (ws.drop j) = ⟨X, 0, Z⟩ :: rgI (ws.drop (j + 3)) by rw [HS.out, HKK.out])
                  obtain ⟨v3, W3, hrun, hrow, hgr⟩ := append_seen_n (W := wr.alloc (.cells #[.int .i64 X, .int .i64 0, .int .i64 Z] 46)) (m := wr.heap.size + 1) (by simp) (HR.out.alloc _) X 0 Z (by have := HJ.out; omega) (by have := GR.out.size; simp; omega)
                  obtain ⟨a3, c3, rfl⟩ := own_form hrow
                  have HRN := Lib.hid hrun
                  have HRW := Lib.hid hrow
                  have HGR := Lib.hid hgr
                  have D3 := Lib.hid (seen_block (CL := fun v => #[.int .i64 0, .int .i64 9, .int .i64 M, .slice a8 ps.length c8, v, .int .i64 0]) HR.out HD.out hgr LB.out)
                  clear hrun hrow hgr
                  have hc3 := D3.out.cell
                  have hf3 := D3.out.frozen
                  have hl3 := D3.out.lt
                  go_wp2_with (at_builtin; refine append_step1 rfl (.tmp 131) (.tmp 133) 24 rfl _ _ _ W3 rfl rfl HRN.out ?_)
                  go_roundw
                  case rel => exact seen_round (CL := fun v => #[.int .i64 0, .int .i64 9, .int .i64 M, .slice a8 ps.length c8, v, .int .i64 0]) HJ.out HE.out HR.out HD.out HB.out GR.out LB.out HRW.out HGR.out rfl hlt HS2.out rfl
                  case measure => simp [intOf]; omega
            · have HKK := Lib.hid (show kOf (wat ws (j + 1)) = 0 by simp only [wat, List.getD]; rw [List.getElem?_eq_none (by rw [HN.out]; omega)]; exact kOf_nil)
              generalize wat ws (j + 1) = y at *
              have HS := Lib.hid hSS
              clear hSS
              go_wp2_with fail
              refine (refnum_int _ _ j rfl HN.out SW.out HZ.out.1 (by omega) HZ.out.2).mono ?_
              rintro e w9 ⟨rfl, rfl⟩
              rw [HXX.out]
              go_wp2_with fail
              refine (refnum_int _ _ (j + 2) rfl HN.out SW.out HZ.out.1 (by omega) HZ.out.2).mono ?_
              rintro e w9 ⟨rfl, rfl⟩
              rw [HZZ.out]
              have HS2 := Lib.hid (show rgI (ws.drop j) = ⟨X, 0, Z⟩ :: rgI (ws.drop (j + 3)) by rw [HS.out, HKK.out])
              obtain ⟨v3, W3, hrun, hrow, hgr⟩ := append_seen_n (W := wr.alloc (.cells #[.int .i64 X, .int .i64 0, .int .i64 Z] 46)) (m := wr.heap.size + 1) (by simp) (HR.out.alloc _) X 0 Z (by have := HJ.out; omega) (by have := GR.out.size; simp; omega)
              obtain ⟨a3, c3, rfl⟩ := own_form hrow
              have HRN := Lib.hid hrun
              have HRW := Lib.hid hrow
              have HGR := Lib.hid hgr
              have D3 := Lib.hid (seen_block (CL := fun v => #[.int .i64 0, .int .i64 9, .int .i64 M, .slice a8 ps.length c8, v, .int .i64 0]) HR.out HD.out hgr LB.out)
              clear hrun hrow hgr
              have hc3 := D3.out.cell
              have hf3 := D3.out.frozen
              have hl3 := D3.out.lt
              go_wp2_with (at_builtin; refine append_step1 rfl (.tmp 131) (.tmp 133) 24 rfl _ _ _ W3 rfl rfl HRN.out ?_)
              go_roundw
              case rel => exact seen_round (CL := fun v => #[.int .i64 0, .int .i64 9, .int .i64 M, .slice a8 ps.length c8, v, .int .i64 0]) HJ.out HE.out HR.out HD.out HB.out GR.out LB.out HRW.out HGR.out rfl hlt HS2.out rfl
              case measure => simp [intOf]; omega
          · obtain ⟨a9, c9, rfl, hs9⟩ := own_sns HR.out
            have hEE := HE.out
            rw [rgI_end HN.out hlt, List.append_nil] at hEE
            rw [hEE] at HG
            have BL9 := Lib.hid (bl H1.out HB.out)
            have BZ9 := Lib.hid (B1.out.call HB.out)
            have DG := Lib.hid HD.out
            have I9 := Lib.hid (show NewI w1.heap.size wr a8 ps from (IP.out.grown GR.out (fun k hk => by have := Option.some.inj hk; omega)).less (Nat.le_succ _))
            have J9 := Lib.hid (show NewS w1.heap.size wr a9 acc from hs9.less (Nat.le_of_lt LB.out))
            have hA := (show ∀ i, wr.cell? ⟨w1.heap.size, i, none⟩ = (#[.int .i64 0, .int .i64 9, .int .i64 M, .slice a8 ps.length c8, .slice a9 acc.length c9, .int .i64 0][i]? : Option Value) from HD.out.cell)
            have hlt0 := HD.out.lt
            clear hEE hs9 HR HE HD SW HB GR HJ
            go_wp2_with fail
            clear hA hlt0
            cases hm : rmayB (⟨0, 9, M, ps, acc, 0⟩)
            · have HP := Lib.hid (show rputOut (⟨0, 9, M, ps, acc, 0⟩) = .tuple #[.string ⟨#[]⟩, .int .i64 2] by simp [rputOut, rputS, rputN, hm, str])
              have HX := Lib.hid (show GotR s.data.toList zeroR 2 by have := HG.out; rw [hm] at this; simpa using this)
              clear hm HG
              refine (rrefput_any (⟨0, 9, M, ps, acc, 0⟩) a8 a9 c8 c9 _ I9.out.1 J9.out.1).mono ?_
              rintro e w30 ⟨rfl, b3⟩
              rw [HP.out]
              have H3 := Lib.hid (bl BL9.out b3)
              have B3 := Lib.hid (BZ9.out.call b3)
              have R3 := Lib.hid (DG.out.call b3)
              have I3 := Lib.hid (I9.out.grown (r := none) (grown_below b3 none) (fun k hk => by cases hk))
              have J3 := Lib.hid (J9.out.grown (r := none) (grown_below b3 none) (fun k hk => by cases hk))
              clear b3 BZ9 DG I9 J9 BL9
              have hc := B3.out.cell
              have hf := B3.out.frozen
              have hl := B3.out.lt
              have hc2 := R3.out.cell
              have hf2 := R3.out.frozen
              have hl2 := R3.out.lt
              have n1 : w.heap.size ≠ w1.heap.size := Nat.ne_of_lt N1.out
              have n2 : w1.heap.size ≠ w.heap.size := Nat.ne_of_gt N1.out
              go_wp2_with fail
              refine bodyPost_ret (v := .tuple #[.agg #[.int .i64 0, .int .i64 0, .int .i64 0, .slice none 0 0, .slice none 0 0, .int .i64 0], .int .i64 2]) (by simp [results, Tryd.results17, go_sem, hc]) rfl ⟨zeroR, none, 0, none, 0, 2, rfl, HX.out, IntsAt.nil _ _, SnsAt.nil _ _, ?_⟩
              have T := H3.out
              repeat (with_reducible refine below_set ?_ (Nat.le_refl _) _ _)
              exact T
            · by_cases ht : textR (⟨0, 9, M, ps, acc, 0⟩) = s.data.toList
              · have HP := Lib.hid (show rputOut (⟨0, 9, M, ps, acc, 0⟩) = .tuple #[.string s, .int .i64 0] by simp [rputOut, rputS, rputN, hm, str, ht])
                have HX := Lib.hid (show GotR s.data.toList (⟨0, 9, M, ps, acc, 0⟩) 0 by have := HG.out; rw [hm, decide_eq_true ht] at this; simpa using this)
                clear hm HG ht
                refine (rrefput_any (⟨0, 9, M, ps, acc, 0⟩) a8 a9 c8 c9 _ I9.out.1 J9.out.1).mono ?_
                rintro e w30 ⟨rfl, b3⟩
                rw [HP.out]
                have H3 := Lib.hid (bl BL9.out b3)
                have B3 := Lib.hid (BZ9.out.call b3)
                have R3 := Lib.hid (DG.out.call b3)
                have I3 := Lib.hid (I9.out.grown (r := none) (grown_below b3 none) (fun k hk => by cases hk))
                have J3 := Lib.hid (J9.out.grown (r := none) (grown_below b3 none) (fun k hk => by cases hk))
                clear b3 BZ9 DG I9 J9 BL9
                have hc := B3.out.cell
                have hf := B3.out.frozen
                have hl := B3.out.lt
                have hc2 := R3.out.cell
                have hf2 := R3.out.frozen
                have hl2 := R3.out.lt
                have n1 : w.heap.size ≠ w1.heap.size := Nat.ne_of_lt N1.out
                have n2 : w1.heap.size ≠ w.heap.size := Nat.ne_of_gt N1.out
                go_wp2_with fail
                refine bodyPost_ret (v := .tuple #[.agg #[.int .i64 0, .int .i64 9, .int .i64 M, .slice a8 ps.length c8, .slice a9 acc.length c9, .int .i64 0], .int .i64 0]) (by simp [results, Tryd.results17, go_sem, hc]) rfl ⟨⟨0, 9, M, ps, acc, 0⟩, a8, c8, a9, c9, 0, rfl, HX.out, ?_, ?_, ?_⟩
                · have T := I3.out
                  refine NewI.to (n := w1.heap.size) ?_
                  repeat (with_reducible refine NewI.set ?_ N1.out _ _)
                  exact T
                · have T := J3.out
                  refine NewS.to (n := w1.heap.size) ?_
                  repeat (with_reducible refine NewS.set ?_ N1.out _ _)
                  exact T
                · have T := H3.out
                  repeat (with_reducible refine below_set ?_ (Nat.le_refl _) _ _)
                  exact T
              · obtain ⟨A, hA⟩ : ∃ A : ByteArray, A = ⟨(textR (⟨0, 9, M, ps, acc, 0⟩)).toArray⟩ := ⟨_, rfl⟩
                have HP := Lib.hid (show rputOut (⟨0, 9, M, ps, acc, 0⟩) = .tuple #[.string A, .int .i64 0] by simp [rputOut, rputS, rputN, hm, str, hA])
                have HX := Lib.hid (show GotR s.data.toList zeroR 2 by have := HG.out; rw [hm, decide_eq_false ht] at this; simpa using this)
                have q1 : (A.toList == s.toList) = false := by
                  rw [beq_eq_false_iff_ne, ByteArray.toList_eq, ByteArray.toList_eq, hA]
                  exact ht
                have q2 : (A.toList != s.toList) = true := by rw [bne, q1]; rfl
                clear hm HG ht hA
                refine (rrefput_any (⟨0, 9, M, ps, acc, 0⟩) a8 a9 c8 c9 _ I9.out.1 J9.out.1).mono ?_
                rintro e w30 ⟨rfl, b3⟩
                rw [HP.out]
                have H3 := Lib.hid (bl BL9.out b3)
                have B3 := Lib.hid (BZ9.out.call b3)
                have R3 := Lib.hid (DG.out.call b3)
                have I3 := Lib.hid (I9.out.grown (r := none) (grown_below b3 none) (fun k hk => by cases hk))
                have J3 := Lib.hid (J9.out.grown (r := none) (grown_below b3 none) (fun k hk => by cases hk))
                clear b3 BZ9 DG I9 J9 BL9
                have hc := B3.out.cell
                have hf := B3.out.frozen
                have hl := B3.out.lt
                have hc2 := R3.out.cell
                have hf2 := R3.out.frozen
                have hl2 := R3.out.lt
                have n1 : w.heap.size ≠ w1.heap.size := Nat.ne_of_lt N1.out
                have n2 : w1.heap.size ≠ w.heap.size := Nat.ne_of_gt N1.out
                go_wp2_with fail
                refine bodyPost_ret (v := .tuple #[.agg #[.int .i64 0, .int .i64 0, .int .i64 0, .slice none 0 0, .slice none 0 0, .int .i64 0], .int .i64 2]) (by simp [results, Tryd.results17, go_sem, hc]) rfl ⟨zeroR, none, 0, none, 0, 2, rfl, HX.out, IntsAt.nil _ _, SnsAt.nil _ _, ?_⟩
                have T := H3.out
                repeat (with_reducible refine below_set ?_ (Nat.le_refl _) _ _)
                exact T
end
end Go.Proofs.YtcabeagmdfpdlaaDoor
