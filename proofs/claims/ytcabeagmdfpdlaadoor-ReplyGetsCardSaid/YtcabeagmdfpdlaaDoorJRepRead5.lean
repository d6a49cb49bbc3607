import Derived.Test.YtcabeagmdfpdlaaDoorRows
import Derived.Test.YtcabeagmdfpdlaaDoorKit
import Derived.Test.YtcabeagmdfpdlaaDoorStrs
import Derived.Test.YtcabeagmdfpdlaaDoorJTab
import Derived.Test.YtcabeagmdfpdlaaDoorJBlk
import Derived.Test.YtcabeagmdfpdlaaDoorClone
import Derived.Test.YtcabeagmdfpdlaaDoorJMath
import Derived.Test.YtcabeagmdfpdlaaDoorJNum
import Derived.Test.YtcabeagmdfpdlaaDoorJTokWord
import Derived.Test.YtcabeagmdfpdlaaDoorJTokJoin
import Derived.Test.YtcabeagmdfpdlaaDoorJCut
import Derived.Test.YtcabeagmdfpdlaaDoorJAppend
import Derived.Test.YtcabeagmdfpdlaaDoorJGrown
import Derived.Test.YtcabeagmdfpdlaaDoorJCmdA
import Derived.Test.YtcabeagmdfpdlaaDoorJCmdNames1
import Derived.Test.YtcabeagmdfpdlaaDoorJRepMath
import Derived.Test.YtcabeagmdfpdlaaDoorJRepItems
import Derived.Test.YtcabeagmdfpdlaaDoorJRepWords
import Derived.Test.YtcabeagmdfpdlaaDoorJRepPut
import Derived.Test.YtcabeagmdfpdlaaDoorJRepRead1
import Derived.Test.YtcabeagmdfpdlaaDoorJRead
import Derived.Test.YtcabeagmdfpdlaaDoorJRepRead4
import Derived.OwnWalk
import Derived.Laws.OwnMore
import Derived.WalkKit
import Derived.ProofKit
import Derived.OpenShut
import Derived.IntWalk
/- reply: read: a look, and what one has, read of words. -/
namespace Go.Proofs.YtcabeagmdfpdlaaDoor
open Go.ChangeShapes Go.WideShapes Go.ChangeAt Go.RowKit
set_option linter.unusedVariables false
open Go.RowKit Go
theorem rdP_sub (ws : List (List UInt8)) : ∀ x ∈ (rdP ws).2, x ∈ ws := by
  induction ws with
  | nil => simp [rdP]
  | cons w r ih =>
    intro x hx
    rw [rdP] at hx
    split at hx
    · exact List.mem_cons_of_mem _ (ih x hx)
    · exact List.mem_cons_of_mem _ hx
theorem rdP_len (ws : List (List UInt8)) : (rdP ws).2.length ≤ ws.length := by
  induction ws with
  | nil => simp [rdP]
  | cons w r ih => rw [rdP]; split <;> simp only [List.length_cons] <;> omega
theorem rdP_fine {ws : List (List UInt8)} (h : ∀ x ∈ ws, x.length ≤ 1000000) : ∀ x ∈ (rdP ws).2, x.length ≤ 1000000 := fun x hx => h x (rdP_sub ws x hx)
section
variable (W0 W : World) (ws : List (List UInt8)) (h : Que W0 W ws) (hx : ∀ x ∈ ws, x.length ≤ 1000000) (ht : RTabs W0) (hl : ws.length ≤ 900000)
include h hx ht hl
set_option maxRecDepth 100000 in
set_option maxHeartbeats 1000000 in
theorem read_look (hn : (headW ws == [101, 114, 114, 111, 114]) = false) (hk : kindN (headW ws) = 9) :
    Calls Tryd.prog 30 #[takeV W0] W (ReadsTo W0 W ⟨0, 9, (numN (headW ws.tail) : Int), (rdP ws.tail.tail.tail).1, (rdI (rdP ws.tail.tail.tail).2).1, 0⟩) := by
  have HT := Lib.hid ht
  have HLT := Lib.hid h.lt
  have HX := Lib.hid hx
  have X1 := Lib.hid (tail_fine hx)
  have T0 := Lib.hid (show Below W.heap.size W (W.alloc (.cells #[.int .i64 0, .int .i64 0, .int .i64 0, .slice none 0 0, .slice none 0 0, .int .i64 0] 26)) from (Below.refl _ _).alloc (Nat.le_refl _) _)
  have HB := Lib.hid (Blk.new W 26 #[.int .i64 0, .int .i64 0, .int .i64 0, .slice none 0 0, .slice none 0 0, .int .i64 0])
  have HQ := Lib.hid ((h.alloc (.cells #[.int .i64 0, .int .i64 0, .int .i64 0, .slice none 0 0, .slice none 0 0, .int .i64 0] 26)))
  have HL := Lib.hid hl
  have X2 := Lib.hid (tail_fine (tail_fine hx))
  have X3 := Lib.hid (tail_fine (tail_fine (tail_fine hx)))
  clear h hx ht hl
  unfold takeV
  go_enter Tryd.func30, Tryd.ntmps30
  go_wp2_with fail
  refine (take_any W0 _ ws HQ.out).mono ?_
  rintro e w1 ⟨rfl, hq⟩
  have H1 := Lib.hid hq
  clear hq HQ
  generalize headW ws = x at *
  go_wp2_with fail
  refine (kind_any x _ (H1.out.1.tabs HT.out).names).mono ?_
  rintro e w2 ⟨rfl, rfl⟩
  generalize kindN x = k at *
  have C1 := Lib.hid (H1.out.alloc (.cells #[.int .i64 0, .int .i64 k, .int .i64 0, .slice none 0 0, .slice none 0 0, .int .i64 0] 26))
  have B1 := Lib.hid (HB.out.taken H1.out HLT.out)
  have BB := Lib.hid (B1.out.alloc (.cells #[.int .i64 0, .int .i64 k, .int .i64 0, .slice none 0 0, .slice none 0 0, .int .i64 0] 26))
  have N1 := Lib.hid (show W.heap.size < w1.heap.size from B1.out.lt)
  have HR := Lib.hid (Blk.new w1 26 #[.int .i64 0, .int .i64 k, .int .i64 0, .slice none 0 0, .slice none 0 0, .int .i64 0])
  have hc2 := BB.out.cell
  have hf2 := BB.out.frozen
  have hl2 := BB.out.lt
  have R0 := Lib.hid (Nat.lt_trans HLT.out N1.out)
  have R1 := Lib.hid (show (W.alloc (.cells #[.int .i64 0, .int .i64 0, .int .i64 0, .slice none 0 0, .slice none 0 0, .int .i64 0] 26)).heap.size ≤ w1.heap.size from H1.out.2.size)
  subst hk
  have n1 : W.heap.size ≠ w1.heap.size := Nat.ne_of_lt N1.out
  have n2 : w1.heap.size ≠ W.heap.size := Nat.ne_of_gt N1.out
  go_wp2_with fail
  refine (rdnum_any W0 _ ws.tail C1.out.1 X1.out).mono ?_
  rintro e w2 ⟨rfl, hq⟩
  have A2 := Lib.hid (taken_trans C1.out hq)
  have B2 := Lib.hid (BB.out.taken hq HLT.out)
  have B3 := Lib.hid (HR.out.taken hq R0.out)
  clear hq hc2 hf2 hl2 BB HR
  have hc := B3.out.cell
  have hf := B3.out.frozen
  have hl := B3.out.lt
  have hc2 := B2.out.cell
  have hf2 := B2.out.frozen
  have hl2 := B2.out.lt
  go_wp2_with fail
  have A2s := Lib.hid (A2.out.set R0.out R1.out 2 (.int .i64 (numN (headW ws.tail))))
  have B2' := Lib.hid (B2.out.far (p := ⟨w1.heap.size, 2, none⟩) (by show W.heap.size ≠ w1.heap.size; exact n1) (.int .i64 (numN (headW ws.tail))))
  have B3' := Lib.hid (show Blk _ w1.heap.size 26 #[.int .i64 0, .int .i64 9, .int .i64 (numN (headW ws.tail)), .slice none 0 0, .slice none 0 0, .int .i64 0] from B3.out.set_ 2 (.int .i64 (numN (headW ws.tail))))
  clear B2 B3
  clear hc hf hl hc2 hf2 hl2
  refine (take_any W0 _ _ A2s.out.1).mono ?_
  rintro e w3 ⟨rfl, hq⟩
  have A3 := Lib.hid (taken_trans A2s.out hq)
  have B2 := Lib.hid (B2'.out.taken hq HLT.out)
  have B3 := Lib.hid (B3'.out.taken hq R0.out)
  clear hq B2' B3' A2 A2s
  go_wp2_with fail
  refine (rdplayers_any W0 _ _ A3.out.1 X3.out (by have := HL.out; simp only [List.length_tail]; omega)).mono ?_
  rintro e w4 ⟨_, rfl, ⟨a4, c4, rfl, i4⟩, hq⟩
  have A4 := Lib.hid (taken_trans A3.out hq)
  have L3 := Lib.hid B3.out.lt
  have Q3 := Lib.hid (show W0.heap.size < w3.heap.size from A3.out.1.lt)
  have B2'' := Lib.hid (B2.out.taken hq HLT.out)
  have B3'' := Lib.hid (B3.out.taken hq R0.out)
  have I4 := Lib.hid i4
  clear hq B2 B3 i4
  have B2 := B2''
  have B3 := B3''
  clear B2'' B3''
  have hc := B3.out.cell
  have hf := B3.out.frozen
  have hl := B3.out.lt
  have hc2 := B2.out.cell
  have hf2 := B2.out.frozen
  have hl2 := B2.out.lt
  generalize hps : (rdP ws.tail.tail.tail).1 = ps at *
  have HPS := Lib.hid hps
  clear hps
  go_wp2_with fail
  have A4s := Lib.hid (A4.out.set R0.out R1.out 3 (.slice a4 ps.length c4))
  have B2' := Lib.hid (B2.out.far (p := ⟨w1.heap.size, 3, none⟩) (by show W.heap.size ≠ w1.heap.size; exact n1) (.slice a4 ps.length c4))
  have B3' := Lib.hid (show Blk _ w1.heap.size 26 #[.int .i64 0, .int .i64 9, .int .i64 (numN (headW ws.tail)), .slice a4 ps.length c4, .slice none 0 0, .int .i64 0] from B3.out.set_ 3 (.slice a4 ps.length c4))
  clear B2 B3
  clear hc hf hl hc2 hf2 hl2
  have I4' := Lib.hid (I4.out.set L3.out 3 (.slice a4 ps.length c4))
  refine (rditems_any W0 _ _ A4s.out.1 (rdP_fine X3.out) (by have := HL.out; have := rdP_len ws.tail.tail.tail; simp only [List.length_tail] at this; omega) HT.out).mono ?_
  rintro e w5 ⟨_, rfl, ⟨a5, c5, rfl, i5⟩, hq⟩
  have A5 := Lib.hid (taken_trans A4s.out hq)
  have L4 := Lib.hid (show w1.heap.size < (w4.setCell ⟨w1.heap.size, 3, none⟩ (.slice a4 ps.length c4)).heap.size from B3'.out.lt)
  have I5 := Lib.hid (I4'.out.grown hq.2 (fun k hk => by have := Option.some.inj hk; have := Q3.out; omega))
  have J5 := Lib.hid i5
  have B2 := Lib.hid (B2'.out.taken hq HLT.out)
  have B3 := Lib.hid (B3'.out.taken hq R0.out)
  clear hq B2' B3' A4 A4s I4 I4' i5
  have hc := B3.out.cell
  have hf := B3.out.frozen
  have hl := B3.out.lt
  have hc2 := B2.out.cell
  have hf2 := B2.out.frozen
  have hl2 := B2.out.lt
  generalize his : (rdI (rdP ws.tail.tail.tail).2).1 = is at *
  have HIS := Lib.hid his
  clear his
  go_wp2_with fail
  refine bodyPost_ret (v := .agg #[.int .i64 0, .int .i64 9, .int .i64 (numN (headW ws.tail)), .slice a4 ps.length c4, .slice a5 is.length c5, .int .i64 0]) (by simp [results, Tryd.results30, go_sem, hc2]) rfl ⟨a4, c4, a5, c5, (rdI (rdP ws.tail.tail.tail).2).2, rfl, ?_, ?_, ?_⟩
  · have T := I5.out
    have l2 : W.heap.size < w3.heap.size := Nat.lt_trans N1.out L3.out
    refine NewI.less (n := w3.heap.size) (Nat.le_of_lt l2) ?_
    repeat (first | with_reducible refine NewI.set ?_ l2 _ _ | with_reducible refine NewI.set ?_ L3.out _ _)
    exact T
  · have T := J5.out
    have l2 := Nat.lt_trans N1.out L4.out
    refine NewS.less (n := (w4.setCell ⟨w1.heap.size, 3, none⟩ (.slice a4 ps.length c4)).heap.size) (Nat.le_of_lt l2) ?_
    repeat (first | with_reducible refine NewS.set ?_ l2 _ _ | with_reducible refine NewS.set ?_ L4.out _ _)
    exact T
  · have T := A5.out.from_ T0.out
    repeat (first | with_reducible refine Taken.set ?_ HLT.out (Nat.le_refl _) _ _ | with_reducible refine Taken.set ?_ R0.out (Nat.le_of_lt N1.out) _ _)
    exact T
set_option maxRecDepth 100000 in
set_option maxHeartbeats 1000000 in
theorem read_own (hn : (headW ws == [101, 114, 114, 111, 114]) = false) (hk : kindN (headW ws) = 10) :
    Calls Tryd.prog 30 #[takeV W0] W (ReadsTo W0 W ⟨0, 10, 0, [], (rdI ws.tail.tail.tail).1, (numN (headW ws.tail) : Int)⟩) := by
  have HT := Lib.hid ht
  have HLT := Lib.hid h.lt
  have HX := Lib.hid hx
  have X1 := Lib.hid (tail_fine hx)
  have T0 := Lib.hid (show Below W.heap.size W (W.alloc (.cells #[.int .i64 0, .int .i64 0, .int .i64 0, .slice none 0 0, .slice none 0 0, .int .i64 0] 26)) from (Below.refl _ _).alloc (Nat.le_refl _) _)
  have HB := Lib.hid (Blk.new W 26 #[.int .i64 0, .int .i64 0, .int .i64 0, .slice none 0 0, .slice none 0 0, .int .i64 0])
  have HQ := Lib.hid ((h.alloc (.cells #[.int .i64 0, .int .i64 0, .int .i64 0, .slice none 0 0, .slice none 0 0, .int .i64 0] 26)))
  have HL := Lib.hid hl
  have X2 := Lib.hid (tail_fine (tail_fine hx))
  have X3 := Lib.hid (tail_fine (tail_fine (tail_fine hx)))
  clear h hx ht hl
  unfold takeV
  go_enter Tryd.func30, Tryd.ntmps30
  go_wp2_with fail
  refine (take_any W0 _ ws HQ.out).mono ?_
  rintro e w1 ⟨rfl, hq⟩
  have H1 := Lib.hid hq
  clear hq HQ
  generalize headW ws = x at *
  go_wp2_with fail
  refine (kind_any x _ (H1.out.1.tabs HT.out).names).mono ?_
  rintro e w2 ⟨rfl, rfl⟩
  generalize kindN x = k at *
  have C1 := Lib.hid (H1.out.alloc (.cells #[.int .i64 0, .int .i64 k, .int .i64 0, .slice none 0 0, .slice none 0 0, .int .i64 0] 26))
  have B1 := Lib.hid (HB.out.taken H1.out HLT.out)
  have BB := Lib.hid (B1.out.alloc (.cells #[.int .i64 0, .int .i64 k, .int .i64 0, .slice none 0 0, .slice none 0 0, .int .i64 0] 26))
  have N1 := Lib.hid (show W.heap.size < w1.heap.size from B1.out.lt)
  have HR := Lib.hid (Blk.new w1 26 #[.int .i64 0, .int .i64 k, .int .i64 0, .slice none 0 0, .slice none 0 0, .int .i64 0])
  have hc2 := BB.out.cell
  have hf2 := BB.out.frozen
  have hl2 := BB.out.lt
  have R0 := Lib.hid (Nat.lt_trans HLT.out N1.out)
  have R1 := Lib.hid (show (W.alloc (.cells #[.int .i64 0, .int .i64 0, .int .i64 0, .slice none 0 0, .slice none 0 0, .int .i64 0] 26)).heap.size ≤ w1.heap.size from H1.out.2.size)
  subst hk
  have n1 : W.heap.size ≠ w1.heap.size := Nat.ne_of_lt N1.out
  have n2 : w1.heap.size ≠ W.heap.size := Nat.ne_of_gt N1.out
  go_wp2_with fail
  refine (rdnum_any W0 _ ws.tail C1.out.1 X1.out).mono ?_
  rintro e w2 ⟨rfl, hq⟩
  have A2 := Lib.hid (taken_trans C1.out hq)
  have B2 := Lib.hid (BB.out.taken hq HLT.out)
  have B3 := Lib.hid (HR.out.taken hq R0.out)
  clear hq hc2 hf2 hl2 BB HR
  have hc := B3.out.cell
  have hf := B3.out.frozen
  have hl := B3.out.lt
  have hc2 := B2.out.cell
  have hf2 := B2.out.frozen
  have hl2 := B2.out.lt
  go_wp2_with fail
  have A2s := Lib.hid (A2.out.set R0.out R1.out 5 (.int .i64 (numN (headW ws.tail))))
  have B2' := Lib.hid (B2.out.far (p := ⟨w1.heap.size, 5, none⟩) (by show W.heap.size ≠ w1.heap.size; exact n1) (.int .i64 (numN (headW ws.tail))))
  have B3' := Lib.hid (show Blk _ w1.heap.size 26 #[.int .i64 0, .int .i64 10, .int .i64 0, .slice none 0 0, .slice none 0 0, .int .i64 (numN (headW ws.tail))] from B3.out.set_ 5 (.int .i64 (numN (headW ws.tail))))
  clear B2 B3
  clear hc hf hl hc2 hf2 hl2
  refine (take_any W0 _ _ A2s.out.1).mono ?_
  rintro e w3 ⟨rfl, hq⟩
  have A3 := Lib.hid (taken_trans A2s.out hq)
  have B2 := Lib.hid (B2'.out.taken hq HLT.out)
  have B3 := Lib.hid (B3'.out.taken hq R0.out)
  clear hq B2' B3' A2 A2s
  go_wp2_with fail
  refine (rditems_any W0 _ _ A3.out.1 X3.out (by have := HL.out; simp only [List.length_tail]; omega) HT.out).mono ?_
  rintro e w5 ⟨_, rfl, ⟨a5, c5, rfl, i5⟩, hq⟩
  have A5 := Lib.hid (taken_trans A3.out hq)
  have L4 := Lib.hid B3.out.lt
  have J5 := Lib.hid i5
  have B2'' := Lib.hid (B2.out.taken hq HLT.out)
  have B3'' := Lib.hid (B3.out.taken hq R0.out)
  clear hq B2 B3 i5
  have B2 := B2''
  have B3 := B3''
  clear B2'' B3''
  have hc := B3.out.cell
  have hf := B3.out.frozen
  have hl := B3.out.lt
  have hc2 := B2.out.cell
  have hf2 := B2.out.frozen
  have hl2 := B2.out.lt
  generalize his : (rdI ws.tail.tail.tail).1 = is at *
  have HIS := Lib.hid his
  clear his
  go_wp2_with fail
  refine bodyPost_ret (v := .agg #[.int .i64 0, .int .i64 10, .int .i64 0, .slice none 0 0, .slice a5 is.length c5, .int .i64 (numN (headW ws.tail))]) (by simp [results, Tryd.results30, go_sem, hc2]) rfl ⟨none, 0, a5, c5, (rdI ws.tail.tail.tail).2, rfl, NewI.nil _ _, ?_, ?_⟩
  · have T := J5.out
    have l2 : W.heap.size < w3.heap.size := Nat.lt_trans N1.out L4.out
    refine NewS.less (n := w3.heap.size) (Nat.le_of_lt l2) ?_
    repeat (first | with_reducible refine NewS.set ?_ l2 _ _ | with_reducible refine NewS.set ?_ L4.out _ _)
    exact T
  · have T := A5.out.from_ T0.out
    repeat (first | with_reducible refine Taken.set ?_ HLT.out (Nat.le_refl _) _ _ | with_reducible refine Taken.set ?_ R0.out (Nat.le_of_lt N1.out) _ _)
    exact T
end
theorem read_any (W0 W : World) (ws : List (List UInt8)) (h : Que W0 W ws) (hx : ∀ x ∈ ws, x.length ≤ 1000000) (ht : RTabs W0) (hl : ws.length ≤ 900000) :
    Calls Tryd.prog 30 #[takeV W0] W (ReadsTo W0 W (readR ws)) := by
  unfold readR
  by_cases hn : headW ws = sError
  · rw [if_pos hn]
    exact read_err W0 W ws h hx ht hn
  · rw [if_neg hn]
    have hn2 : (headW ws == [101, 114, 114, 111, 114]) = false := by rw [beq_eq_false_iff_ne]; exact hn
    by_cases h12 : kindN (headW ws) = 1 ∨ kindN (headW ws) = 2
    · rw [if_pos h12]
      exact read_move W0 W ws h hx ht hn2 (by rcases h12 with e | e <;> simp [e])
    · rw [if_neg h12]
      by_cases h9 : kindN (headW ws) = 9
      · rw [if_pos h9]
        exact read_look W0 W ws h hx ht hl hn2 h9
      · rw [if_neg h9]
        by_cases h10 : kindN (headW ws) = 10
        · rw [if_pos h10]
          exact read_own W0 W ws h hx ht hl hn2 h10
        · rw [if_neg h10]
          exact read_else W0 W ws h hx ht hn2 (by rw [beq_eq_false_iff_ne]; omega) (by rw [beq_eq_false_iff_ne]; omega) (by rw [beq_eq_false_iff_ne]; omega) (by rw [beq_eq_false_iff_ne]; omega)
end Go.Proofs.YtcabeagmdfpdlaaDoor
