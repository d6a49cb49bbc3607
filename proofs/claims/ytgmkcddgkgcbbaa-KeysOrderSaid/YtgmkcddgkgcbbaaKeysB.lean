/- keys: the code's Less, isOf, Many, Place, At; the document's Place and Same. -/
import Derived.Test.YtgmkcddgkgcbbaaKeysA
namespace Go.Proofs.Ytgmkcddgkgcbbaa
open Go.ChangeShapes Go.WideShapes Go.ChangeAt Go.RowKit
open Lib (hid)
set_option linter.unusedVariables false
set_option maxRecDepth 100000
open Go.RowKit Go
theorem grow_below (w : World) (q : Nat) (os : Array Obj) : Below w.heap.size w (Go.Sort.grow (w.drewN q) os) :=
 ⟨rfl, rfl, rfl, by simp [Go.Sort.grow, World.drewN], fun k hk => by show (w.heap ++ os)[k]? = w.heap[k]?; rw [Array.getElem?_append_left hk]⟩
theorem kless_any (a b : Pl) (w : World) : Calls Try.prog 9 #[.agg #[.int .i64 a.kind, .int .i64 a.id], .agg #[.int .i64 b.kind, .int .i64 b.id]] w fun e w' => e = .returned (.bool (lessK a b)) ∧ Below w.heap.size w w' := by
 have HB := hid (two_k w #[.int .i64 a.kind, .int .i64 a.id] #[.int .i64 b.kind, .int .i64 b.id] 24 24)
 have HR := hid (cmpK_less a b)
 by_cases h : cmpK a b < 0
 ·have HX := hid (show lessK a b = true by rw [← cmpK_less]; simpa using h)
  go_enter Try.func9, Try.ntmps9
  go_wp2_with fail
  refine (compare_any a b _).mono ?_
  rintro e w1 ⟨rfl, q, os, rfl⟩
  generalize cmpK a b = c at *
  go_wp2_with fail
  go_ret
  exact ⟨ret_bool HX.out.symm, bl HB.out (grow_below _ _ _)⟩
 ·have HX := hid (show lessK a b = false by rw [← cmpK_less]; simpa using h)
  go_enter Try.func9, Try.ntmps9
  go_wp2_with fail
  refine (compare_any a b _).mono ?_
  rintro e w1 ⟨rfl, q, os, rfl⟩
  generalize cmpK a b = c at *
  go_wp2_with fail
  go_ret
  exact ⟨ret_bool HR.out, bl HB.out (grow_below _ _ _)⟩
def isOfB (n m : Int) : Bool := decide (0 ≤ n) && decide (n < m)
theorem isof_any (n m : Int) (w : World) : Calls Try.prog 21 #[.int .i64 n, .int .i64 m] w fun e w' => e = .returned (.bool (isOfB n m)) ∧ w = w' := by
 by_cases h1 : 0 ≤ n
 ·by_cases h2 : n < m
  ·have HR := hid (show isOfB n m = true by simp [isOfB, h1, h2])
   go_enter Try.func21, Try.ntmps21
   go_wp2_with fail
   go_ret
   exact ⟨ret_bool HR.out.symm, rfl⟩
  ·have HR := hid (show isOfB n m = false by simp [isOfB, h1, h2])
   go_enter Try.func21, Try.ntmps21
   go_wp2_with fail
   go_ret
   exact ⟨ret_bool HR.out.symm, rfl⟩
 ·have HR := hid (show isOfB n m = false by simp [isOfB, h1])
  go_enter Try.func21, Try.ntmps21
  go_wp2_with fail
  go_ret
  exact ⟨ret_bool HR.out.symm, rfl⟩
theorem kmany_any (d : Ds) (p : Dp) (w : World) (h1 : d.exits.length ≤ 1000000) (h2 : d.players.length ≤ 1000000) : Calls Try.prog 18 #[.agg #[.slice p.ex d.exits.length p.exc, .slice p.pl d.players.length p.plc, .slice p.co d.coins.length p.coc, .slice p.it d.items.length p.itc, .slice p.bo d.boxes.length p.boc, .int .i64 d.room, .int .i64 d.player, .int .i64 d.box]] w fun e w' => e = .returned (.int .i64 ((d.exits.length : Int) + d.players.length)) ∧ Below w.heap.size w w' := by
 have HB := hid ((Below.refl w.heap.size w).alloc (Nat.le_refl _) (.cells #[.slice p.ex d.exits.length p.exc, .slice p.pl d.players.length p.plc, .slice p.co d.coins.length p.coc, .slice p.it d.items.length p.itc, .slice p.bo d.boxes.length p.boc, .int .i64 d.room, .int .i64 d.player, .int .i64 d.box] 35))
 go_enter Try.func18, Try.ntmps18
 go_wp2_with fail
 go_ret
 exact ⟨rfl, HB.out⟩
theorem kplace_any (d : Ds) (p : Dp) (k : Pl) (w : World) (h1 : d.exits.length ≤ 1000000) (h2 : d.players.length ≤ 1000000) : Calls Try.prog 15 #[.agg #[.slice p.ex d.exits.length p.exc, .slice p.pl d.players.length p.plc, .slice p.co d.coins.length p.coc, .slice p.it d.items.length p.itc, .slice p.bo d.boxes.length p.boc, .int .i64 d.room, .int .i64 d.player, .int .i64 d.box], .agg #[.int .i64 k.kind, .int .i64 k.id]] w fun e w' => e = .returned (.int .i64 (placeK d.exits.length d.players.length k)) ∧ Below w.heap.size w w' := by
 have HB := hid (((Below.refl w.heap.size w).alloc (Nat.le_refl _) (.cells #[.slice p.ex d.exits.length p.exc, .slice p.pl d.players.length p.plc, .slice p.co d.coins.length p.coc, .slice p.it d.items.length p.itc, .slice p.bo d.boxes.length p.boc, .int .i64 d.room, .int .i64 d.player, .int .i64 d.box] 35)).alloc (by simp) (.cells #[.int .i64 k.kind, .int .i64 k.id] 24))
 by_cases hk : k.kind = 0
 ·by_cases h3 : 0 ≤ k.id
  ·by_cases h4 : k.id < d.exits.length
   ·have HR := hid (show placeK d.exits.length d.players.length k = k.id by simp [placeK, hk, h3, h4])
    have q0 : (k.kind == 0) = true := by simpa using hk
    have HC0 := hid (show isOfB k.id d.exits.length = true by simp [isOfB, h3, h4])
    (try clear hk); (try clear hk1)
    go_enter Try.func15, Try.ntmps15
    go_wp2_with fail
    refine (isof_any _ _ _).mono ?_
    rintro e w' ⟨rfl, rfl⟩
    rw [HC0.out]
    go_wp2_with fail
    go_ret
    exact ⟨ret_numK HR.out.symm, HB.out⟩
   ·have HR := hid (show placeK d.exits.length d.players.length k = -1 by simp [placeK, hk, h4])
    have q0 : (k.kind == 0) = true := by simpa using hk
    have q1 : (k.kind == 1) = false := by simp [hk]
    have HC0 := hid (show isOfB k.id d.exits.length = false by simp [isOfB, h4])
    (try clear hk); (try clear hk1)
    go_enter Try.func15, Try.ntmps15
    go_wp2_with fail
    refine (isof_any _ _ _).mono ?_
    rintro e w' ⟨rfl, rfl⟩
    rw [HC0.out]
    go_wp2_with fail
    go_ret
    exact ⟨ret_numK HR.out.symm, HB.out⟩
  ·have HR := hid (show placeK d.exits.length d.players.length k = -1 by simp [placeK, hk, h3])
   have q0 : (k.kind == 0) = true := by simpa using hk
   have q1 : (k.kind == 1) = false := by simp [hk]
   have HC0 := hid (show isOfB k.id d.exits.length = false by simp [isOfB, h3])
   (try clear hk); (try clear hk1)
   go_enter Try.func15, Try.ntmps15
   go_wp2_with fail
   refine (isof_any _ _ _).mono ?_
   rintro e w' ⟨rfl, rfl⟩
   rw [HC0.out]
   go_wp2_with fail
   go_ret
   exact ⟨ret_numK HR.out.symm, HB.out⟩
 ·by_cases hk1 : k.kind = 1
  ·by_cases h3 : 0 ≤ k.id
   ·by_cases h4 : k.id < d.players.length
    ·have HR := hid (show placeK d.exits.length d.players.length k = d.exits.length + k.id by simp [placeK, hk1, h3, h4])
     have q0 : (k.kind == 0) = false := by simp [hk1]
     have q1 : (k.kind == 1) = true := by simpa using hk1
     have HC0 := hid (show isOfB k.id d.players.length = true by simp [isOfB, h3, h4])
     (try clear hk); (try clear hk1)
     go_enter Try.func15, Try.ntmps15
     go_wp2_with fail
     refine (isof_any _ _ _).mono ?_
     rintro e w' ⟨rfl, rfl⟩
     rw [HC0.out]
     go_wp2_with fail
     go_ret
     exact ⟨ret_numK HR.out.symm, HB.out⟩
    ·have HR := hid (show placeK d.exits.length d.players.length k = -1 by simp [placeK, hk1, h4])
     have q0 : (k.kind == 0) = false := by simp [hk1]
     have q1 : (k.kind == 1) = true := by simpa using hk1
     have HC0 := hid (show isOfB k.id d.players.length = false by simp [isOfB, h4])
     (try clear hk); (try clear hk1)
     go_enter Try.func15, Try.ntmps15
     go_wp2_with fail
     refine (isof_any _ _ _).mono ?_
     rintro e w' ⟨rfl, rfl⟩
     rw [HC0.out]
     go_wp2_with fail
     go_ret
     exact ⟨ret_numK HR.out.symm, HB.out⟩
   ·have HR := hid (show placeK d.exits.length d.players.length k = -1 by simp [placeK, hk1, h3])
    have q0 : (k.kind == 0) = false := by simp [hk1]
    have q1 : (k.kind == 1) = true := by simpa using hk1
    have HC0 := hid (show isOfB k.id d.players.length = false by simp [isOfB, h3])
    (try clear hk); (try clear hk1)
    go_enter Try.func15, Try.ntmps15
    go_wp2_with fail
    refine (isof_any _ _ _).mono ?_
    rintro e w' ⟨rfl, rfl⟩
    rw [HC0.out]
    go_wp2_with fail
    go_ret
    exact ⟨ret_numK HR.out.symm, HB.out⟩
  ·have HR := hid (show placeK d.exits.length d.players.length k = -1 by simp [placeK, hk, hk1])
   have q0 : (k.kind == 0) = false := by simpa using hk
   have q1 : (k.kind == 1) = false := by simpa using hk1
   (try clear hk); (try clear hk1)
   go_enter Try.func15, Try.ntmps15
   go_wp2_with fail
   go_ret
   exact ⟨ret_numK HR.out.symm, HB.out⟩
theorem refplace_any (d : Ds) (p : Dp) (k : Pl) (w : World) (h1 : d.exits.length ≤ 1000000) (h2 : d.players.length ≤ 1000000) : Calls Try.prog 17 #[.agg #[.slice p.ex d.exits.length p.exc, .slice p.pl d.players.length p.plc, .slice p.co d.coins.length p.coc, .slice p.it d.items.length p.itc, .slice p.bo d.boxes.length p.boc, .int .i64 d.room, .int .i64 d.player, .int .i64 d.box], .agg #[.int .i64 k.kind, .int .i64 k.id]] w fun e w' => e = .returned (.int .i64 (placeK d.exits.length d.players.length k)) ∧ Below w.heap.size w w' := by
 have HB := hid (((Below.refl w.heap.size w).alloc (Nat.le_refl _) (.cells #[.slice p.ex d.exits.length p.exc, .slice p.pl d.players.length p.plc, .slice p.co d.coins.length p.coc, .slice p.it d.items.length p.itc, .slice p.bo d.boxes.length p.boc, .int .i64 d.room, .int .i64 d.player, .int .i64 d.box] 35)).alloc (by simp) (.cells #[.int .i64 k.kind, .int .i64 k.id] 24))
 by_cases hk : k.kind = 0
 ·by_cases h3 : 0 ≤ k.id
  ·by_cases h4 : k.id < d.exits.length
   ·have HR := hid (show placeK d.exits.length d.players.length k = k.id by simp [placeK, hk, h3, h4])
    have q0 : (k.kind == 0) = true := by simpa using hk
    (try clear hk); (try clear hk1)
    go_enter Try.func17, Try.ntmps17
    go_wp2_with fail
    go_ret
    exact ⟨ret_numK HR.out.symm, HB.out⟩
   ·have HR := hid (show placeK d.exits.length d.players.length k = -1 by simp [placeK, hk, h4])
    have q0 : (k.kind == 0) = true := by simpa using hk
    have q1 : (k.kind == 1) = false := by simp [hk]
    (try clear hk); (try clear hk1)
    go_enter Try.func17, Try.ntmps17
    go_wp2_with fail
    go_ret
    exact ⟨ret_numK HR.out.symm, HB.out⟩
  ·have HR := hid (show placeK d.exits.length d.players.length k = -1 by simp [placeK, hk, h3])
   have q0 : (k.kind == 0) = true := by simpa using hk
   have q1 : (k.kind == 1) = false := by simp [hk]
   (try clear hk); (try clear hk1)
   go_enter Try.func17, Try.ntmps17
   go_wp2_with fail
   go_ret
   exact ⟨ret_numK HR.out.symm, HB.out⟩
 ·by_cases hk1 : k.kind = 1
  ·by_cases h3 : 0 ≤ k.id
   ·by_cases h4 : k.id < d.players.length
    ·have HR := hid (show placeK d.exits.length d.players.length k = d.exits.length + k.id by simp [placeK, hk1, h3, h4])
     have q0 : (k.kind == 0) = false := by simp [hk1]
     have q1 : (k.kind == 1) = true := by simpa using hk1
     (try clear hk); (try clear hk1)
     go_enter Try.func17, Try.ntmps17
     go_wp2_with fail
     go_ret
     exact ⟨ret_numK HR.out.symm, HB.out⟩
    ·have HR := hid (show placeK d.exits.length d.players.length k = -1 by simp [placeK, hk1, h4])
     have q0 : (k.kind == 0) = false := by simp [hk1]
     have q1 : (k.kind == 1) = true := by simpa using hk1
     (try clear hk); (try clear hk1)
     go_enter Try.func17, Try.ntmps17
     go_wp2_with fail
     go_ret
     exact ⟨ret_numK HR.out.symm, HB.out⟩
   ·have HR := hid (show placeK d.exits.length d.players.length k = -1 by simp [placeK, hk1, h3])
    have q0 : (k.kind == 0) = false := by simp [hk1]
    have q1 : (k.kind == 1) = true := by simpa using hk1
    (try clear hk); (try clear hk1)
    go_enter Try.func17, Try.ntmps17
    go_wp2_with fail
    go_ret
    exact ⟨ret_numK HR.out.symm, HB.out⟩
  ·have HR := hid (show placeK d.exits.length d.players.length k = -1 by simp [placeK, hk, hk1])
   have q0 : (k.kind == 0) = false := by simpa using hk
   have q1 : (k.kind == 1) = false := by simpa using hk1
   (try clear hk); (try clear hk1)
   go_enter Try.func17, Try.ntmps17
   go_wp2_with fail
   go_ret
   exact ⟨ret_numK HR.out.symm, HB.out⟩
def keyV (o : Option Pl) : Pl := o.getD ⟨0, 0⟩
theorem at_store (w : World) (A : Array Value) (t : TypeId) (c d : Value) : Below w.heap.size w (((w.alloc (.cells A t)).alloc (.cells #[.int .i64 0, .int .i64 0] 24))) := two_k w A _ t _
theorem kat_any (d : Ds) (p : Dp) (n : Int) (w : World) (h1 : d.exits.length ≤ 1000000) (h2 : d.players.length ≤ 1000000) (hn : -9223372036854775808 ≤ n ∧ n ≤ 9223372036854775807) :
 Calls Try.prog 16 #[.agg #[.slice p.ex d.exits.length p.exc, .slice p.pl d.players.length p.plc, .slice p.co d.coins.length p.coc, .slice p.it d.items.length p.itc, .slice p.bo d.boxes.length p.boc, .int .i64 d.room, .int .i64 d.player, .int .i64 d.box], .int .i64 n] w fun e w' => e = .returned (.tuple #[.agg #[.int .i64 (keyV (keyAt d.exits.length d.players.length n)).kind, .int .i64 (keyV (keyAt d.exits.length d.players.length n)).id], .bool (keyAt d.exits.length d.players.length n).isSome]) ∧ Below w.heap.size w w' := by
 have HB := hid (((Below.refl w.heap.size w).alloc (Nat.le_refl _) (.cells #[.slice p.ex d.exits.length p.exc, .slice p.pl d.players.length p.plc, .slice p.co d.coins.length p.coc, .slice p.it d.items.length p.itc, .slice p.bo d.boxes.length p.boc, .int .i64 d.room, .int .i64 d.player, .int .i64 d.box] 35)).alloc (by simp) (.cells #[.int .i64 0, .int .i64 0] 24))
 have HC := hid (Blk.newn (w.alloc (.cells #[.slice p.ex d.exits.length p.exc, .slice p.pl d.players.length p.plc, .slice p.co d.coins.length p.coc, .slice p.it d.items.length p.itc, .slice p.bo d.boxes.length p.boc, .int .i64 d.room, .int .i64 d.player, .int .i64 d.box] 35)) 24 #[.int .i64 0, .int .i64 0] (n := w.heap.size + 1) (by simp))
 have HD := hid ((Blk.new w 35 #[.slice p.ex d.exits.length p.exc, .slice p.pl d.players.length p.plc, .slice p.co d.coins.length p.coc, .slice p.it d.items.length p.itc, .slice p.bo d.boxes.length p.boc, .int .i64 d.room, .int .i64 d.player, .int .i64 d.box]).alloc (.cells #[.int .i64 0, .int .i64 0] 24))
 have HL := hid (show w.heap.size ≤ w.heap.size + 1 from Nat.le_succ _)
 by_cases h3 : isOfB n d.exits.length = true
 ·have HK := hid (show keyAt d.exits.length d.players.length n = some ⟨0, n⟩ by simp [isOfB] at h3; simp [keyAt, h3])
  have HC0 := hid (show isOfB n d.exits.length = true by exact h3)
  rw [HK.out]
  clear h3
  have hq1 := h1
  have hq2 := h2
  go_enter Try.func16, Try.ntmps16
  go_wp2_with fail
  generalize (w.alloc (.cells #[.slice p.ex d.exits.length p.exc, .slice p.pl d.players.length p.plc, .slice p.co d.coins.length p.coc, .slice p.it d.items.length p.itc, .slice p.bo d.boxes.length p.boc, .int .i64 d.room, .int .i64 d.player, .int .i64 d.box] 35)).alloc (.cells #[.int .i64 0, .int .i64 0] 24) = V at *
  have hcC := HC.out.cell
  have hlC := HC.out.lt
  have hzC := HC.out.frozen
  have hcD := HD.out.cell
  refine (isof_any _ _ _).mono ?_
  rintro e w' ⟨rfl, rfl⟩
  rw [HC0.out]
  go_wp2_with fail
  have HF := hid ((HC.out.set_ 0 (.int .i64 0)).set_ 1 (.int .i64 n))
  have HBF := hid ((HB.out.setCell (p := ⟨w.heap.size + 1, 0, none⟩) HL.out (.int .i64 0)).setCell (p := ⟨w.heap.size + 1, 1, none⟩) HL.out (.int .i64 n))
  clear hcC hlC hzC hcD
  generalize (V.setCell ⟨w.heap.size + 1, 0, none⟩ (.int .i64 0)).setCell ⟨w.heap.size + 1, 1, none⟩ (.int .i64 n) = V9 at *
  have c0 : V9.cell? ⟨w.heap.size + 1, 0, none⟩ = some (.int .i64 0) := by simpa using HF.out.cell 0
  have c1 : V9.cell? ⟨w.heap.size + 1, 1, none⟩ = some (.int .i64 n) := by simpa using HF.out.cell 1
  refine bodyPost_ret (v := .tuple #[.agg #[.int .i64 0, .int .i64 n], .bool true]) (by simp [results, Try.results16, go_sem, c0, c1]) rfl ⟨by simp [keyV], HBF.out⟩
 ·have h3 : isOfB n d.exits.length = false := by simpa using h3
  by_cases h4 : isOfB n ((d.exits.length : Int) + d.players.length) = true
  ·have HK := hid (show keyAt d.exits.length d.players.length n = some ⟨1, n - d.exits.length⟩ by simp [isOfB] at h3 h4; rw [keyAt, if_neg (by omega), if_pos (by omega)])
   have HC0 := hid (show isOfB n d.exits.length = false by exact h3)
   have HC1 := hid (show isOfB n ((d.exits.length : Int) + d.players.length) = true by exact h4)
   have hlo : 0 ≤ n := by simp [isOfB] at h4; omega
   have hup : n < (d.exits.length : Int) + d.players.length := by simp [isOfB] at h4; omega
   rw [HK.out]
   clear h3 h4
   have hq1 := h1
   have hq2 := h2
   go_enter Try.func16, Try.ntmps16
   go_wp2_with fail
   generalize (w.alloc (.cells #[.slice p.ex d.exits.length p.exc, .slice p.pl d.players.length p.plc, .slice p.co d.coins.length p.coc, .slice p.it d.items.length p.itc, .slice p.bo d.boxes.length p.boc, .int .i64 d.room, .int .i64 d.player, .int .i64 d.box] 35)).alloc (.cells #[.int .i64 0, .int .i64 0] 24) = V at *
   have hcC := HC.out.cell
   have hlC := HC.out.lt
   have hzC := HC.out.frozen
   have hcD := HD.out.cell
   refine (isof_any _ _ _).mono ?_
   rintro e w' ⟨rfl, rfl⟩
   rw [HC0.out]
   go_wp2_with fail
   refine (kmany_any d p _ h1 h2).mono ?_
   rintro e w1 ⟨rfl, hb1⟩
   have HB1 := hid (bl HB.out hb1)
   have HE := hid (HC.out.call hb1)
   clear hcC hlC hzC hcD hb1
   have hcC := HE.out.cell
   have hlC := HE.out.lt
   have hzC := HE.out.frozen
   go_wp2_with fail
   refine (isof_any _ _ _).mono ?_
   rintro e w' ⟨rfl, rfl⟩
   rw [HC1.out]
   go_wp2_with fail
   have HF := hid ((HE.out.set_ 0 (.int .i64 1)).set_ 1 (.int .i64 (n - d.exits.length)))
   have HBF := hid ((HB1.out.setCell (p := ⟨w.heap.size + 1, 0, none⟩) HL.out (.int .i64 1)).setCell (p := ⟨w.heap.size + 1, 1, none⟩) HL.out (.int .i64 (n - d.exits.length)))
   clear hcC hlC hzC
   generalize (w1.setCell ⟨w.heap.size + 1, 0, none⟩ (.int .i64 1)).setCell ⟨w.heap.size + 1, 1, none⟩ (.int .i64 (n - d.exits.length)) = V9 at *
   have c0 : V9.cell? ⟨w.heap.size + 1, 0, none⟩ = some (.int .i64 1) := by simpa using HF.out.cell 0
   have c1 : V9.cell? ⟨w.heap.size + 1, 1, none⟩ = some (.int .i64 (n - d.exits.length)) := by simpa using HF.out.cell 1
   refine bodyPost_ret (v := .tuple #[.agg #[.int .i64 1, .int .i64 (n - d.exits.length)], .bool true]) (by simp [results, Try.results16, go_sem, c0, c1]) rfl ⟨by simp [keyV], HBF.out⟩
  ·have HK := hid (show keyAt d.exits.length d.players.length n = none by simp [isOfB] at h3 h4; rw [keyAt, if_neg (by omega), if_neg (by omega)])
   have HC0 := hid (show isOfB n d.exits.length = false by exact h3)
   have HC1 := hid (show isOfB n ((d.exits.length : Int) + d.players.length) = false by simpa using h4)
   rw [HK.out]
   clear h3 h4
   have hq1 := h1
   have hq2 := h2
   go_enter Try.func16, Try.ntmps16
   go_wp2_with fail
   generalize (w.alloc (.cells #[.slice p.ex d.exits.length p.exc, .slice p.pl d.players.length p.plc, .slice p.co d.coins.length p.coc, .slice p.it d.items.length p.itc, .slice p.bo d.boxes.length p.boc, .int .i64 d.room, .int .i64 d.player, .int .i64 d.box] 35)).alloc (.cells #[.int .i64 0, .int .i64 0] 24) = V at *
   have hcC := HC.out.cell
   have hlC := HC.out.lt
   have hzC := HC.out.frozen
   have hcD := HD.out.cell
   refine (isof_any _ _ _).mono ?_
   rintro e w' ⟨rfl, rfl⟩
   rw [HC0.out]
   go_wp2_with fail
   refine (kmany_any d p _ h1 h2).mono ?_
   rintro e w1 ⟨rfl, hb1⟩
   have HB1 := hid (bl HB.out hb1)
   have HE := hid (HC.out.call hb1)
   clear hcC hlC hzC hcD hb1
   have hcC := HE.out.cell
   have hlC := HE.out.lt
   have hzC := HE.out.frozen
   go_wp2_with fail
   refine (isof_any _ _ _).mono ?_
   rintro e w' ⟨rfl, rfl⟩
   rw [HC1.out]
   go_wp2_with fail
   have HF := hid ((HE.out.set_ 0 (.int .i64 0)).set_ 1 (.int .i64 0))
   have HBF := hid ((HB1.out.setCell (p := ⟨w.heap.size + 1, 0, none⟩) HL.out (.int .i64 0)).setCell (p := ⟨w.heap.size + 1, 1, none⟩) HL.out (.int .i64 0))
   clear hcC hlC hzC
   generalize (w1.setCell ⟨w.heap.size + 1, 0, none⟩ (.int .i64 0)).setCell ⟨w.heap.size + 1, 1, none⟩ (.int .i64 0) = V9 at *
   have c0 : V9.cell? ⟨w.heap.size + 1, 0, none⟩ = some (.int .i64 0) := by simpa using HF.out.cell 0
   have c1 : V9.cell? ⟨w.heap.size + 1, 1, none⟩ = some (.int .i64 0) := by simpa using HF.out.cell 1
   refine bodyPost_ret (v := .tuple #[.agg #[.int .i64 0, .int .i64 0], .bool false]) (by simp [results, Try.results16, go_sem, c0, c1]) rfl ⟨by simp [keyV], HBF.out⟩
end Go.Proofs.Ytgmkcddgkgcbbaa
