/- Lists of a world held against one another: slices.Equal of them, and the document's own Places. -/
import Derived.Test.YtgmkcddgkgcbbaaGreatGWorld
namespace Go.Proofs.YtgmkcddgkgcbbaaGreat
open Go.ChangeShapes Go.WideShapes Go.ChangeAt Go.RowKit
open Lib (hid)
set_option linter.unusedVariables false
set_option maxRecDepth 100000
section
theorem run_pl (a1 a2 b1 b2 : Int) (w : World) : (binOp .neq 73 (.agg #[.int .i64 a1, .int .i64 a2]) (.agg #[.int .i64 b1, .int .i64 b2])).run Tryz.prog w = .ok (.bool (!decide ((⟨a1, a2⟩ : Pl) = ⟨b1, b2⟩))) w := by
 by_cases e1 : a1 = b1
 ·by_cases e2 : a2 = b2
  ·subst e1 e2; go_simp
  ·go_simp
 ·go_simp
theorem run_eq4 (a1 a2 a3 a4 b1 b2 b3 b4 : Int) (w : World) : (Op.equalIn (9999 + 1) 51 (.agg #[.int .i64 a1, .int .i64 a2, .int .i64 a3, .int .i64 a4]) (.agg #[.int .i64 b1, .int .i64 b2, .int .i64 b3, .int .i64 b4])).run Tryz.prog w = .ok (decide ((⟨a1, a2, a3, a4⟩ : Ex) = ⟨b1, b2, b3, b4⟩)) w := by
 have hu := Tryz.underlying3
 unfold Op.equalIn
 simp [run_underlying Tryz.underlying51, List.range', go_sem]
 by_cases e1 : a1 = b1
 ·by_cases e2 : a2 = b2
  ·by_cases e3 : a3 = b3
   ·by_cases e4 : a4 = b4
    ·simp [e1, e2, e3, e4]
    ·simp [e1, e2, e3, e4]
   ·simp [e1, e2, e3]
  ·simp [e1, e2]
 ·simp [e1]
theorem run_ex (a1 a2 a3 a4 b1 b2 b3 b4 : Int) (w : World) : (binOp .neq 51 (.agg #[.int .i64 a1, .int .i64 a2, .int .i64 a3, .int .i64 a4]) (.agg #[.int .i64 b1, .int .i64 b2, .int .i64 b3, .int .i64 b4])).run Tryz.prog w = .ok (.bool (!decide ((⟨a1, a2, a3, a4⟩ : Ex) = ⟨b1, b2, b3, b4⟩))) w := by
 rw [run_neq_struct, run_eq4]; rfl
theorem refplaces_cells (a b : Option Addr) (ca cb : Nat) (xs ys : List Pl) (w : World) (hl : xs.length = ys.length) (h1 : PlsAt w a xs) (h2 : PlsAt w b ys) :
 Calls Tryz.prog 32 #[.slice a xs.length ca, .slice b ys.length cb] w fun e w' => e = .returned (.bool (decide (xs = ys))) ∧ Below w.heap.size w w' := by
 have hm := h1.len
 have H1 := hid h1
 have H2 := hid h2
 have HL := hid hl
 rw [← hl]
 clear h1 h2 hl
 go_enter Tryz.func32, Tryz.ntmps32
 go_wp2_with fail
 go_loopw [5] (fun i wr => ∃ k : Nat, k ≤ xs.length ∧ i = .int .i64 k ∧ xs.take k = ys.take k ∧ Below w.heap.size w wr) (fun i _ => xs.length - (intOf i).toNat)
 case atStart => exact ⟨0, Nat.zero_le _, rfl, rfl, Below.refl _ _⟩
 case round =>
  obtain ⟨k, hk, rfl, htk, hbel⟩ := hrel
  have HT := hid htk
  clear htk
  by_cases hlt : k < xs.length
  ·have hy : k < ys.length := by have := HL.out; omega
   obtain ⟨xb, xo, rfl, hxb, c0, c1⟩ := PlsAt.cells (RowAt.below H1.out hbel (Nat.le_refl _)) hlt
   obtain ⟨yb, yo, rfl, hyb, d0, d1⟩ := PlsAt.cells (RowAt.below H2.out hbel (Nat.le_refl _)) hy
   clear H1 H2
   have HX := hid (take_eq_succ hlt hy HT.out)
   have HN : Hid (¬ xs[k] = ys[k] → ¬ xs = ys) := hid (fun h e => by subst e; exact h rfl)
   generalize hx : xs[k] = x at *
   generalize hyy : ys[k] = y at *
   have G1 := hid hx
   have G2 := hid hyy
   clear hx hyy
   have hrun := run_pl x.kind x.id y.kind y.id
   obtain ⟨x0, x1⟩ := x
   obtain ⟨y0, y1⟩ := y
   by_cases he : (⟨x0, x1⟩ : Pl) = ⟨y0, y1⟩
   ·have HX2 := hid (HX.out he)
    simp only [he, decide_true, Bool.not_true] at hrun
    clear he
    go_wp2_with fail
    go_quiet (fail)
    go_wp2_with fail
    go_roundw
    case rel => exact ⟨k + 1, by omega, by go_num, HX2.out, bdrew hbel _⟩
    case measure => simp [intOf]; omega
   ·have HD := hid (show decide (xs = ys) = false by simpa using HN.out he)
    simp only [he, decide_false, Bool.not_false] at hrun
    clear he
    go_wp2_with fail
    go_quiet (fail)
    go_wp2_with fail
    go_ret
    exact ⟨ret_bool (by rw [HD.out]), bdrew hbel _⟩
  ·have hke : k = xs.length := by omega
   subst hke
   have HD := hid (show decide (xs = ys) = true by
    have := HT.out
    rw [List.take_of_length_le (Nat.le_refl _), HL.out, List.take_of_length_le (Nat.le_refl _)] at this
    simpa using this)
   clear H1 H2
   go_wp2_with fail
   go_ret
   exact ⟨ret_bool (by rw [HD.out]), hbel⟩
theorem refplaces_any (a b : Option Addr) (ca cb : Nat) (xs ys : List Pl) (w : World) (h1 : PlsAt w a xs) (h2 : PlsAt w b ys) :
 Calls Tryz.prog 32 #[.slice a xs.length ca, .slice b ys.length cb] w fun e w' => e = .returned (.bool (decide (xs = ys))) ∧ Below w.heap.size w w' := by
 by_cases h : xs.length = ys.length
 ·exact refplaces_cells a b ca cb xs ys w h h1 h2
 ·have HD := hid (show decide (xs = ys) = false by rw [decide_eq_false_iff_not]; intro e; exact h (by rw [e]))
  rw [HD.out]
  have hl := h1.len
  have hl2 := h2.len
  clear h1 h2
  have hb : ((xs.length : Int) == (ys.length : Int)) = false := by rw [beq_eq_false_iff_ne]; omega
  have hb2 : ((xs.length : Int) != (ys.length : Int)) = true := by rw [bne, hb]; rfl
  go_enter Tryz.func32, Tryz.ntmps32
  go_wp2_with fail
  go_ret
  exact ⟨rfl, Below.refl _ _⟩
end
section
end
section
/-- The four boxes of the call. -/
structure SS (w : World) (A B C D : Array Value) (wr : World) : Prop where
 a : Holds w w.heap.size A wr
 b : Holds w (w.heap.size + 1) B wr
 c : Holds w (w.heap.size + 2) C wr
 d : Holds w (w.heap.size + 3) D wr
theorem SS.call {w wr w1 : World} {A B C D : Array Value} (h : SS w A B C D wr) (hb : Below wr.heap.size wr w1) : SS w A B C D w1 := ⟨h.a.call hb, h.b.call hb, h.c.call hb, h.d.call hb⟩
theorem SS.drewN {w wr : World} {A B C D : Array Value} (h : SS w A B C D wr) (n : Nat) : SS w A B C D (wr.drewN n) := ⟨h.a.drewN n, h.b.drewN n, h.c.drewN n, h.d.drewN n⟩
theorem SS.start (w : World) (A B C D : Array Value) (t u : TypeId) : SS w A B C D ((((w.alloc (.cells A t)).alloc (.cells B t)).alloc (.cells C u)).alloc (.cells D u)) := by
 have h1 := Holds.pair w A B t t
 have h2 := Holds.pair ((w.alloc (.cells A t)).alloc (.cells B t)) C D u u
 have e : ((w.alloc (.cells A t)).alloc (.cells B t)).heap.size = w.heap.size + 2 := by simp
 rw [e] at h2
 refine ⟨(h1.1.alloc _).alloc _, (h1.2.alloc _).alloc _, h2.1.from_ h1.1.1, ?_⟩
 have h3 := h2.2.from_ h1.1.1
 rwa [show w.heap.size + 2 + 1 = w.heap.size + 3 by omega] at h3
theorem same_parts {a b : Wd} (e0 : a.d.players = b.d.players) (e1 : a.d.coins = b.d.coins) (e2 : a.d.items = b.d.items) (e3 : a.at_ = b.at_) (e4 : a.coins = b.coins) (g0 : a.d.exits = b.d.exits) (g1 : a.d.boxes = b.d.boxes)
 (r0 : a.d.room = b.d.room) (r1 : a.d.player = b.d.player) (r2 : a.d.box = b.d.box) : decide (a = b) = decide (a.wher = b.wher) := by
 obtain ⟨⟨a1, a2, a3, a4, a5, a6, a7, a8⟩, a9, a10, a11⟩ := a
 obtain ⟨⟨b1, b2, b3, b4, b5, b6, b7, b8⟩, b9, b10, b11⟩ := b
 simp only at e0 e1 e2 e3 e4 g0 g1 r0 r1 r2
 subst e0 e1 e2 e3 e4 g0 g1 r0 r1 r2
 simp
theorem refsame_lens (a b : Wd) (p q : Wp) (w : World) (h : ¬ (a.d.room = b.d.room ∧ a.d.player = b.d.player ∧ a.d.box = b.d.box ∧ a.d.exits.length = b.d.exits.length ∧ a.d.boxes.length = b.d.boxes.length)) :
 Calls Tryz.prog 10 #[.agg (wC a p), .agg (wC b q)] w fun e w' => e = .returned (.bool (decide (a = b))) ∧ Below w.heap.size w w' := by
 have HR := hid (show decide (a = b) = false from decide_eq_false (fun e => h (by subst e; exact ⟨rfl, rfl, rfl, rfl, rfl⟩)))
 have HP := hid (SS.start w (wC a p) (wC b q) #[.slice p.d.ex a.d.exits.length p.d.exc, .slice p.d.pl a.d.players.length p.d.plc, .slice p.d.co a.d.coins.length p.d.coc, .slice p.d.it a.d.items.length p.d.itc, .slice p.d.bo a.d.boxes.length p.d.boc, .int .i64 a.d.room, .int .i64 a.d.player, .int .i64 a.d.box] #[.slice q.d.ex b.d.exits.length q.d.exc, .slice q.d.pl b.d.players.length q.d.plc, .slice q.d.co b.d.coins.length q.d.coc, .slice q.d.it b.d.items.length q.d.itc, .slice q.d.bo b.d.boxes.length q.d.boc, .int .i64 b.d.room, .int .i64 b.d.player, .int .i64 b.d.box] 29 26)
 by_cases e0 : a.d.room = b.d.room
 rotate_left
 ·have q0 : (a.d.room != b.d.room) = true := by simpa using e0
  clear h e0
  have hWC := @wC.eq_1
  go_enter Tryz.func10, Tryz.ntmps10
  go_wp2_with fail
  go_ret
  exact ⟨ret_bool HR.out.symm, HP.out.a.1⟩
 by_cases e1 : a.d.player = b.d.player
 rotate_left
 ·have q1 : (a.d.player != b.d.player) = true := by simpa using e1
  have q0 : (a.d.room != b.d.room) = false := by simpa using e0
  clear h e0 e1
  have hWC := @wC.eq_1
  go_enter Tryz.func10, Tryz.ntmps10
  go_wp2_with fail
  go_ret
  exact ⟨ret_bool HR.out.symm, HP.out.a.1⟩
 by_cases e2 : a.d.box = b.d.box
 rotate_left
 ·have q2 : (a.d.box != b.d.box) = true := by simpa using e2
  have q0 : (a.d.room != b.d.room) = false := by simpa using e0
  have q1 : (a.d.player != b.d.player) = false := by simpa using e1
  clear h e0 e1 e2
  have hWC := @wC.eq_1
  go_enter Tryz.func10, Tryz.ntmps10
  go_wp2_with fail
  go_ret
  exact ⟨ret_bool HR.out.symm, HP.out.a.1⟩
 by_cases e3 : a.d.exits.length = b.d.exits.length
 rotate_left
 ·have q3 : ((a.d.exits.length : Int) != (b.d.exits.length : Int)) = true := by simp; omega
  have q0 : (a.d.room != b.d.room) = false := by simpa using e0
  have q1 : (a.d.player != b.d.player) = false := by simpa using e1
  have q2 : (a.d.box != b.d.box) = false := by simpa using e2
  clear h e0 e1 e2 e3
  have hWC := @wC.eq_1
  go_enter Tryz.func10, Tryz.ntmps10
  go_wp2_with fail
  go_ret
  exact ⟨ret_bool HR.out.symm, HP.out.a.1⟩
 by_cases e4 : a.d.boxes.length = b.d.boxes.length
 rotate_left
 ·have q4 : ((a.d.boxes.length : Int) != (b.d.boxes.length : Int)) = true := by simp; omega
  have q0 : (a.d.room != b.d.room) = false := by simpa using e0
  have q1 : (a.d.player != b.d.player) = false := by simpa using e1
  have q2 : (a.d.box != b.d.box) = false := by simpa using e2
  have q3 : ((a.d.exits.length : Int) != (b.d.exits.length : Int)) = false := by simp; omega
  clear h e0 e1 e2 e3 e4
  have hWC := @wC.eq_1
  go_enter Tryz.func10, Tryz.ntmps10
  go_wp2_with fail
  go_ret
  exact ⟨ret_bool HR.out.symm, HP.out.a.1⟩
 exact absurd ⟨e0, e1, e2, e3, e4⟩ h
set_option maxHeartbeats 1000000 in
theorem refsame_go (a b : Wd) (px pp pc pi pb pa pk pw : Option Addr) (pxc ppc pcc pic pbc pac pkc pwc : Nat) (qx qp qc qi qb qa qk qw : Option Addr) (qxc qpc qcc qic qbc qac qkc qwc : Nat) (w : World) (h1 : WorldAt w ⟨⟨px, pxc, pp, ppc, pc, pcc, pi, pic, pb, pbc⟩, pa, pac, pk, pkc, pw, pwc⟩ a) (h2 : WorldAt w ⟨⟨qx, qxc, qp, qpc, qc, qcc, qi, qic, qb, qbc⟩, qa, qac, qk, qkc, qw, qwc⟩ b)
 (h : a.d.room = b.d.room ∧ a.d.player = b.d.player ∧ a.d.box = b.d.box ∧ a.d.exits.length = b.d.exits.length ∧ a.d.boxes.length = b.d.boxes.length) :
 Calls Tryz.prog 10 #[.agg (wC a ⟨⟨px, pxc, pp, ppc, pc, pcc, pi, pic, pb, pbc⟩, pa, pac, pk, pkc, pw, pwc⟩), .agg (wC b ⟨⟨qx, qxc, qp, qpc, qc, qcc, qi, qic, qb, qbc⟩, qa, qac, qk, qkc, qw, qwc⟩)] w fun e w' => e = .returned (.bool (decide (a = b))) ∧ Below w.heap.size w w' := by
 have H1 := hid h1
 have H2 := hid h2
 have HE := hid h
 obtain ⟨e0, e1, e2, e3, e4⟩ := h
 have q0 : (a.d.room != b.d.room) = false := by simpa using e0
 have q1 : (a.d.player != b.d.player) = false := by simpa using e1
 have q2 : (a.d.box != b.d.box) = false := by simpa using e2
 have q3 : ((a.d.exits.length : Int) != (b.d.exits.length : Int)) = false := by simp; omega
 have q4 : ((a.d.boxes.length : Int) != (b.d.boxes.length : Int)) = false := by simp; omega
 have hm := h1.d.ex.len
 have hm2 := h1.d.bo.len
 have HP := hid (SS.start w (wC a ⟨⟨px, pxc, pp, ppc, pc, pcc, pi, pic, pb, pbc⟩, pa, pac, pk, pkc, pw, pwc⟩) (wC b ⟨⟨qx, qxc, qp, qpc, qc, qcc, qi, qic, qb, qbc⟩, qa, qac, qk, qkc, qw, qwc⟩) #[.slice px a.d.exits.length pxc, .slice pp a.d.players.length ppc, .slice pc a.d.coins.length pcc, .slice pi a.d.items.length pic, .slice pb a.d.boxes.length pbc, .int .i64 a.d.room, .int .i64 a.d.player, .int .i64 a.d.box] #[.slice qx b.d.exits.length qxc, .slice qp b.d.players.length qpc, .slice qc b.d.coins.length qcc, .slice qi b.d.items.length qic, .slice qb b.d.boxes.length qbc, .int .i64 b.d.room, .int .i64 b.d.player, .int .i64 b.d.box] 29 26)
 clear e0 e1 e2 e3 e4 h1 h2
 have hWC := @wC.eq_1
 go_enter Tryz.func10, Tryz.ntmps10
 go_wp2_with fail
 go_loopw [7] (fun i wr => ∃ k : Nat, k ≤ a.d.exits.length ∧ i = .int .i64 k ∧ a.d.exits.take k = b.d.exits.take k ∧ SS w (wC a ⟨⟨px, pxc, pp, ppc, pc, pcc, pi, pic, pb, pbc⟩, pa, pac, pk, pkc, pw, pwc⟩) (wC b ⟨⟨qx, qxc, qp, qpc, qc, qcc, qi, qic, qb, qbc⟩, qa, qac, qk, qkc, qw, qwc⟩) #[.slice px a.d.exits.length pxc, .slice pp a.d.players.length ppc, .slice pc a.d.coins.length pcc, .slice pi a.d.items.length pic, .slice pb a.d.boxes.length pbc, .int .i64 a.d.room, .int .i64 a.d.player, .int .i64 a.d.box] #[.slice qx b.d.exits.length qxc, .slice qp b.d.players.length qpc, .slice qc b.d.coins.length qcc, .slice qi b.d.items.length qic, .slice qb b.d.boxes.length qbc, .int .i64 b.d.room, .int .i64 b.d.player, .int .i64 b.d.box] wr) (fun i _ => a.d.exits.length - (intOf i).toNat)
 case atStart => exact ⟨0, Nat.zero_le _, rfl, rfl, HP.out⟩
 case round =>
  obtain ⟨k, hk, rfl, htk, hss⟩ := hrel
  clear HP
  have HT := hid htk
  have HP := hid hss
  clear htk hss
  have hc2 := HP.out.c.2.2
  have hc3 := HP.out.d.2.2
  by_cases hlt : k < a.d.exits.length
  ·have hy : k < b.d.exits.length := by have := HE.out; omega
   obtain ⟨xb, xo, rfl, hxb, c0, c1, c2, c3⟩ := ExsAt.cells (RowAt.below (show ExsAt _ px a.d.exits from H1.out.d.ex) HP.out.a.1 (Nat.le_refl _)) hlt
   obtain ⟨yb, yo, rfl, hyb, d0, d1, d2, d3⟩ := ExsAt.cells (RowAt.below (show ExsAt _ qx b.d.exits from H2.out.d.ex) HP.out.a.1 (Nat.le_refl _)) hy
   have HX := hid (take_eq_succ hlt hy HT.out)
   have HN : Hid (¬ a.d.exits[k] = b.d.exits[k] → ¬ a = b) := hid (fun h e => by subst e; exact h rfl)
   generalize a.d.exits[k] = x at *
   generalize b.d.exits[k] = y at *
   have hrun := run_ex x.n x.e x.s x.w y.n y.e y.s y.w
   obtain ⟨x0, x1, x2, x3⟩ := x
   obtain ⟨y0, y1, y2, y3⟩ := y
   simp only at c0 c1 c2 c3 d0 d1 d2 d3
   by_cases he : (⟨x0, x1, x2, x3⟩ : Ex) = ⟨y0, y1, y2, y3⟩
   ·have HX2 := hid (HX.out he)
    simp only [he, decide_true, Bool.not_true] at hrun
    clear he HX HN
    go_wp2_with fail
    go_quiet (fail)
    go_wp2_with fail
    go_roundw
    case rel => exact ⟨k + 1, by omega, by go_num, HX2.out, HP.out.drewN _⟩
    case measure => simp [intOf]; omega
   ·have HD := hid (show decide (a = b) = false by simpa using HN.out he)
    simp only [he, decide_false, Bool.not_false] at hrun
    clear he HX HN
    go_wp2_with fail
    go_quiet (fail)
    go_wp2_with fail
    go_ret
    exact ⟨ret_bool HD.out.symm, bdrew HP.out.a.1 _⟩
  ·have hke : k = a.d.exits.length := by omega
   subst hke
   have X0 := hid (show a.d.exits = b.d.exits by
    have := HT.out
    rwa [List.take_of_length_le (Nat.le_refl _), HE.out.2.2.2.1, List.take_of_length_le (Nat.le_refl _)] at this)
   clear HT
   go_wp2_with fail
   clear hc2 hc3
   go_loopw [8] (fun i wr => ∃ k : Nat, k ≤ a.d.boxes.length ∧ i = .int .i64 k ∧ a.d.boxes.take k = b.d.boxes.take k ∧ SS w (wC a ⟨⟨px, pxc, pp, ppc, pc, pcc, pi, pic, pb, pbc⟩, pa, pac, pk, pkc, pw, pwc⟩) (wC b ⟨⟨qx, qxc, qp, qpc, qc, qcc, qi, qic, qb, qbc⟩, qa, qac, qk, qkc, qw, qwc⟩) #[.slice px a.d.exits.length pxc, .slice pp a.d.players.length ppc, .slice pc a.d.coins.length pcc, .slice pi a.d.items.length pic, .slice pb a.d.boxes.length pbc, .int .i64 a.d.room, .int .i64 a.d.player, .int .i64 a.d.box] #[.slice qx b.d.exits.length qxc, .slice qp b.d.players.length qpc, .slice qc b.d.coins.length qcc, .slice qi b.d.items.length qic, .slice qb b.d.boxes.length qbc, .int .i64 b.d.room, .int .i64 b.d.player, .int .i64 b.d.box] wr) (fun i _ => a.d.boxes.length - (intOf i).toNat)
   case atStart => exact ⟨0, Nat.zero_le _, rfl, rfl, HP.out⟩
   case round =>
    obtain ⟨k, hk, rfl, htk, hss⟩ := hrel
    clear HP
    have HT := hid htk
    have HP := hid hss
    clear htk hss
    have hc2 := HP.out.c.2.2
    have hc3 := HP.out.d.2.2
    by_cases hlt : k < a.d.boxes.length
    ·have hy : k < b.d.boxes.length := by have := HE.out; omega
     obtain ⟨xb, xo, rfl, hxb, c0⟩ := BlsAt.cells (RowAt.below (show BlsAt _ pb a.d.boxes from H1.out.d.bo) HP.out.a.1 (Nat.le_refl _)) hlt
     obtain ⟨yb, yo, rfl, hyb, d0⟩ := BlsAt.cells (RowAt.below (show BlsAt _ qb b.d.boxes from H2.out.d.bo) HP.out.a.1 (Nat.le_refl _)) hy
     have HX := hid (take_eq_succ hlt hy HT.out)
     have HN : Hid (¬ a.d.boxes[k] = b.d.boxes[k] → ¬ a = b) := hid (fun h e => by subst e; exact h rfl)
     generalize a.d.boxes[k] = x at *
     generalize b.d.boxes[k] = y at *
     by_cases he : x = y
     ·subst he
      have HX2 := hid (HX.out rfl)
      clear HX HN
      cases x
      all_goals
       go_wp2_with fail
       go_quiet (fail)
       go_wp2_with fail
       go_roundw
       case rel => exact ⟨k + 1, by omega, by go_num, HX2.out, HP.out.drewN _⟩
       case measure => simp [intOf]; omega
     ·have HD := hid (show decide (a = b) = false by simpa using HN.out he)
      clear HX HN
      cases x
      all_goals
       cases y
       all_goals
        first
        | exact absurd rfl he
        | (clear he
           go_wp2_with fail
           go_quiet (fail)
           go_wp2_with fail
           go_ret
           exact ⟨ret_bool HD.out.symm, bdrew HP.out.a.1 _⟩)
    ·have hke : k = a.d.boxes.length := by omega
     subst hke
     have X1 := hid (show a.d.boxes = b.d.boxes by
      have := HT.out
      rwa [List.take_of_length_le (Nat.le_refl _), HE.out.2.2.2.2, List.take_of_length_le (Nat.le_refl _)] at this)
     clear HT hc2 hc3 q0 q1 q2 q3 q4
     have hc2 := HP.out.c.2.2
     have hc3 := HP.out.d.2.2
     by_cases e0 : a.d.players = b.d.players
     rotate_left
     ·have Y0 := hid (show decide (a.d.players = b.d.players) = false from decide_eq_false e0)
      have HR := hid (show decide (a = b) = false from decide_eq_false (fun h => e0 (by rw [h])))
      clear e0
      go_wp2_with fail
      refine (ints_any _ _ _ _ a.d.players b.d.players _ (H1.out.below HP.out.a.1 (Nat.le_refl _)).d.pl (H2.out.below HP.out.a.1 (Nat.le_refl _)).d.pl).mono ?_
      rintro e v0 ⟨rfl, b0⟩
      rw [Y0.out]
      have HQ0 := hid (HP.out.call b0)
      clear b0
      go_wp2_with fail
      go_ret
      exact ⟨ret_bool HR.out.symm, HQ0.out.a.1⟩
     by_cases e1 : a.d.coins = b.d.coins
     rotate_left
     ·have Y1 := hid (show decide (a.d.coins = b.d.coins) = false from decide_eq_false e1)
      have Y0 := hid (show decide (a.d.players = b.d.players) = true from decide_eq_true e0)
      have HR := hid (show decide (a = b) = false from decide_eq_false (fun h => e1 (by rw [h])))
      clear e0 e1
      go_wp2_with fail
      refine (ints_any _ _ _ _ a.d.players b.d.players _ (H1.out.below HP.out.a.1 (Nat.le_refl _)).d.pl (H2.out.below HP.out.a.1 (Nat.le_refl _)).d.pl).mono ?_
      rintro e v0 ⟨rfl, b0⟩
      rw [Y0.out]
      have HQ0 := hid (HP.out.call b0)
      clear b0
      clear hc2 hc3
      have hc0 := HQ0.out.a.2.2
      have hc1 := HQ0.out.b.2.2
      have hc2 := HQ0.out.c.2.2
      have hc3 := HQ0.out.d.2.2
      go_wp2_with fail
      clear hc0 hc1 hc2 hc3
      refine (ints_any _ _ _ _ a.d.coins b.d.coins v0 (H1.out.below HQ0.out.a.1 (Nat.le_refl _)).d.co (H2.out.below HQ0.out.a.1 (Nat.le_refl _)).d.co).mono ?_
      rintro e v1 ⟨rfl, b1⟩
      rw [Y1.out]
      have HQ1 := hid (HQ0.out.call b1)
      clear b1
      go_wp2_with fail
      go_ret
      exact ⟨ret_bool HR.out.symm, HQ1.out.a.1⟩
     by_cases e2 : a.d.items = b.d.items
     rotate_left
     ·have Y2 := hid (show decide (a.d.items = b.d.items) = false from decide_eq_false e2)
      have Y0 := hid (show decide (a.d.players = b.d.players) = true from decide_eq_true e0)
      have Y1 := hid (show decide (a.d.coins = b.d.coins) = true from decide_eq_true e1)
      have HR := hid (show decide (a = b) = false from decide_eq_false (fun h => e2 (by rw [h])))
      clear e0 e1 e2
      go_wp2_with fail
      refine (ints_any _ _ _ _ a.d.players b.d.players _ (H1.out.below HP.out.a.1 (Nat.le_refl _)).d.pl (H2.out.below HP.out.a.1 (Nat.le_refl _)).d.pl).mono ?_
      rintro e v0 ⟨rfl, b0⟩
      rw [Y0.out]
      have HQ0 := hid (HP.out.call b0)
      clear b0
      clear hc2 hc3
      have hc0 := HQ0.out.a.2.2
      have hc1 := HQ0.out.b.2.2
      have hc2 := HQ0.out.c.2.2
      have hc3 := HQ0.out.d.2.2
      go_wp2_with fail
      clear hc0 hc1 hc2 hc3
      refine (ints_any _ _ _ _ a.d.coins b.d.coins v0 (H1.out.below HQ0.out.a.1 (Nat.le_refl _)).d.co (H2.out.below HQ0.out.a.1 (Nat.le_refl _)).d.co).mono ?_
      rintro e v1 ⟨rfl, b1⟩
      rw [Y1.out]
      have HQ1 := hid (HQ0.out.call b1)
      clear b1
      have hc0 := HQ1.out.a.2.2
      have hc1 := HQ1.out.b.2.2
      have hc2 := HQ1.out.c.2.2
      have hc3 := HQ1.out.d.2.2
      go_wp2_with fail
      clear hc0 hc1 hc2 hc3
      refine (ints_any _ _ _ _ a.d.items b.d.items v1 (H1.out.below HQ1.out.a.1 (Nat.le_refl _)).d.it (H2.out.below HQ1.out.a.1 (Nat.le_refl _)).d.it).mono ?_
      rintro e v2 ⟨rfl, b2⟩
      rw [Y2.out]
      have HQ2 := hid (HQ1.out.call b2)
      clear b2
      go_wp2_with fail
      go_ret
      exact ⟨ret_bool HR.out.symm, HQ2.out.a.1⟩
     by_cases e3 : a.at_ = b.at_
     rotate_left
     ·have Y3 := hid (show decide (a.at_ = b.at_) = false from decide_eq_false e3)
      have Y0 := hid (show decide (a.d.players = b.d.players) = true from decide_eq_true e0)
      have Y1 := hid (show decide (a.d.coins = b.d.coins) = true from decide_eq_true e1)
      have Y2 := hid (show decide (a.d.items = b.d.items) = true from decide_eq_true e2)
      have HR := hid (show decide (a = b) = false from decide_eq_false (fun h => e3 (by rw [h])))
      clear e0 e1 e2 e3
      go_wp2_with fail
      refine (ints_any _ _ _ _ a.d.players b.d.players _ (H1.out.below HP.out.a.1 (Nat.le_refl _)).d.pl (H2.out.below HP.out.a.1 (Nat.le_refl _)).d.pl).mono ?_
      rintro e v0 ⟨rfl, b0⟩
      rw [Y0.out]
      have HQ0 := hid (HP.out.call b0)
      clear b0
      clear hc2 hc3
      have hc0 := HQ0.out.a.2.2
      have hc1 := HQ0.out.b.2.2
      have hc2 := HQ0.out.c.2.2
      have hc3 := HQ0.out.d.2.2
      go_wp2_with fail
      clear hc0 hc1 hc2 hc3
      refine (ints_any _ _ _ _ a.d.coins b.d.coins v0 (H1.out.below HQ0.out.a.1 (Nat.le_refl _)).d.co (H2.out.below HQ0.out.a.1 (Nat.le_refl _)).d.co).mono ?_
      rintro e v1 ⟨rfl, b1⟩
      rw [Y1.out]
      have HQ1 := hid (HQ0.out.call b1)
      clear b1
      have hc0 := HQ1.out.a.2.2
      have hc1 := HQ1.out.b.2.2
      have hc2 := HQ1.out.c.2.2
      have hc3 := HQ1.out.d.2.2
      go_wp2_with fail
      clear hc0 hc1 hc2 hc3
      refine (ints_any _ _ _ _ a.d.items b.d.items v1 (H1.out.below HQ1.out.a.1 (Nat.le_refl _)).d.it (H2.out.below HQ1.out.a.1 (Nat.le_refl _)).d.it).mono ?_
      rintro e v2 ⟨rfl, b2⟩
      rw [Y2.out]
      have HQ2 := hid (HQ1.out.call b2)
      clear b2
      have hc0 := HQ2.out.a.2.2
      have hc1 := HQ2.out.b.2.2
      have hc2 := HQ2.out.c.2.2
      have hc3 := HQ2.out.d.2.2
      go_wp2_with fail
      clear hc0 hc1 hc2 hc3
      refine (ints_any _ _ _ _ a.at_ b.at_ v2 (H1.out.below HQ2.out.a.1 (Nat.le_refl _)).at_ (H2.out.below HQ2.out.a.1 (Nat.le_refl _)).at_).mono ?_
      rintro e v3 ⟨rfl, b3⟩
      rw [Y3.out]
      have HQ3 := hid (HQ2.out.call b3)
      clear b3
      go_wp2_with fail
      go_ret
      exact ⟨ret_bool HR.out.symm, HQ3.out.a.1⟩
     by_cases e4 : a.coins = b.coins
     rotate_left
     ·have Y4 := hid (show decide (a.coins = b.coins) = false from decide_eq_false e4)
      have Y0 := hid (show decide (a.d.players = b.d.players) = true from decide_eq_true e0)
      have Y1 := hid (show decide (a.d.coins = b.d.coins) = true from decide_eq_true e1)
      have Y2 := hid (show decide (a.d.items = b.d.items) = true from decide_eq_true e2)
      have Y3 := hid (show decide (a.at_ = b.at_) = true from decide_eq_true e3)
      have HR := hid (show decide (a = b) = false from decide_eq_false (fun h => e4 (by rw [h])))
      clear e0 e1 e2 e3 e4
      go_wp2_with fail
      refine (ints_any _ _ _ _ a.d.players b.d.players _ (H1.out.below HP.out.a.1 (Nat.le_refl _)).d.pl (H2.out.below HP.out.a.1 (Nat.le_refl _)).d.pl).mono ?_
      rintro e v0 ⟨rfl, b0⟩
      rw [Y0.out]
      have HQ0 := hid (HP.out.call b0)
      clear b0
      clear hc2 hc3
      have hc0 := HQ0.out.a.2.2
      have hc1 := HQ0.out.b.2.2
      have hc2 := HQ0.out.c.2.2
      have hc3 := HQ0.out.d.2.2
      go_wp2_with fail
      clear hc0 hc1 hc2 hc3
      refine (ints_any _ _ _ _ a.d.coins b.d.coins v0 (H1.out.below HQ0.out.a.1 (Nat.le_refl _)).d.co (H2.out.below HQ0.out.a.1 (Nat.le_refl _)).d.co).mono ?_
      rintro e v1 ⟨rfl, b1⟩
      rw [Y1.out]
      have HQ1 := hid (HQ0.out.call b1)
      clear b1
      have hc0 := HQ1.out.a.2.2
      have hc1 := HQ1.out.b.2.2
      have hc2 := HQ1.out.c.2.2
      have hc3 := HQ1.out.d.2.2
      go_wp2_with fail
      clear hc0 hc1 hc2 hc3
      refine (ints_any _ _ _ _ a.d.items b.d.items v1 (H1.out.below HQ1.out.a.1 (Nat.le_refl _)).d.it (H2.out.below HQ1.out.a.1 (Nat.le_refl _)).d.it).mono ?_
      rintro e v2 ⟨rfl, b2⟩
      rw [Y2.out]
      have HQ2 := hid (HQ1.out.call b2)
      clear b2
      have hc0 := HQ2.out.a.2.2
      have hc1 := HQ2.out.b.2.2
      have hc2 := HQ2.out.c.2.2
      have hc3 := HQ2.out.d.2.2
      go_wp2_with fail
      clear hc0 hc1 hc2 hc3
      refine (ints_any _ _ _ _ a.at_ b.at_ v2 (H1.out.below HQ2.out.a.1 (Nat.le_refl _)).at_ (H2.out.below HQ2.out.a.1 (Nat.le_refl _)).at_).mono ?_
      rintro e v3 ⟨rfl, b3⟩
      rw [Y3.out]
      have HQ3 := hid (HQ2.out.call b3)
      clear b3
      have hc0 := HQ3.out.a.2.2
      have hc1 := HQ3.out.b.2.2
      have hc2 := HQ3.out.c.2.2
      have hc3 := HQ3.out.d.2.2
      go_wp2_with fail
      clear hc0 hc1 hc2 hc3
      refine (ints_any _ _ _ _ a.coins b.coins v3 (H1.out.below HQ3.out.a.1 (Nat.le_refl _)).co (H2.out.below HQ3.out.a.1 (Nat.le_refl _)).co).mono ?_
      rintro e v4 ⟨rfl, b4⟩
      rw [Y4.out]
      have HQ4 := hid (HQ3.out.call b4)
      clear b4
      go_wp2_with fail
      go_ret
      exact ⟨ret_bool HR.out.symm, HQ4.out.a.1⟩
     have Y0 := hid (show decide (a.d.players = b.d.players) = true from decide_eq_true e0)
     have Y1 := hid (show decide (a.d.coins = b.d.coins) = true from decide_eq_true e1)
     have Y2 := hid (show decide (a.d.items = b.d.items) = true from decide_eq_true e2)
     have Y3 := hid (show decide (a.at_ = b.at_) = true from decide_eq_true e3)
     have Y4 := hid (show decide (a.coins = b.coins) = true from decide_eq_true e4)
     have HR := hid (same_parts e0 e1 e2 e3 e4 X0.out X1.out HE.out.1 HE.out.2.1 HE.out.2.2.1)
     clear e0 e1 e2 e3 e4
     go_wp2_with fail
     refine (ints_any _ _ _ _ a.d.players b.d.players _ (H1.out.below HP.out.a.1 (Nat.le_refl _)).d.pl (H2.out.below HP.out.a.1 (Nat.le_refl _)).d.pl).mono ?_
     rintro e v0 ⟨rfl, b0⟩
     rw [Y0.out]
     have HQ0 := hid (HP.out.call b0)
     clear b0
     clear hc2 hc3
     have hc0 := HQ0.out.a.2.2
     have hc1 := HQ0.out.b.2.2
     have hc2 := HQ0.out.c.2.2
     have hc3 := HQ0.out.d.2.2
     go_wp2_with fail
     clear hc0 hc1 hc2 hc3
     refine (ints_any _ _ _ _ a.d.coins b.d.coins v0 (H1.out.below HQ0.out.a.1 (Nat.le_refl _)).d.co (H2.out.below HQ0.out.a.1 (Nat.le_refl _)).d.co).mono ?_
     rintro e v1 ⟨rfl, b1⟩
     rw [Y1.out]
     have HQ1 := hid (HQ0.out.call b1)
     clear b1
     have hc0 := HQ1.out.a.2.2
     have hc1 := HQ1.out.b.2.2
     have hc2 := HQ1.out.c.2.2
     have hc3 := HQ1.out.d.2.2
     go_wp2_with fail
     clear hc0 hc1 hc2 hc3
     refine (ints_any _ _ _ _ a.d.items b.d.items v1 (H1.out.below HQ1.out.a.1 (Nat.le_refl _)).d.it (H2.out.below HQ1.out.a.1 (Nat.le_refl _)).d.it).mono ?_
     rintro e v2 ⟨rfl, b2⟩
     rw [Y2.out]
     have HQ2 := hid (HQ1.out.call b2)
     clear b2
     have hc0 := HQ2.out.a.2.2
     have hc1 := HQ2.out.b.2.2
     have hc2 := HQ2.out.c.2.2
     have hc3 := HQ2.out.d.2.2
     go_wp2_with fail
     clear hc0 hc1 hc2 hc3
     refine (ints_any _ _ _ _ a.at_ b.at_ v2 (H1.out.below HQ2.out.a.1 (Nat.le_refl _)).at_ (H2.out.below HQ2.out.a.1 (Nat.le_refl _)).at_).mono ?_
     rintro e v3 ⟨rfl, b3⟩
     rw [Y3.out]
     have HQ3 := hid (HQ2.out.call b3)
     clear b3
     have hc0 := HQ3.out.a.2.2
     have hc1 := HQ3.out.b.2.2
     have hc2 := HQ3.out.c.2.2
     have hc3 := HQ3.out.d.2.2
     go_wp2_with fail
     clear hc0 hc1 hc2 hc3
     refine (ints_any _ _ _ _ a.coins b.coins v3 (H1.out.below HQ3.out.a.1 (Nat.le_refl _)).co (H2.out.below HQ3.out.a.1 (Nat.le_refl _)).co).mono ?_
     rintro e v4 ⟨rfl, b4⟩
     rw [Y4.out]
     have HQ4 := hid (HQ3.out.call b4)
     clear b4
     have hc0 := HQ4.out.a.2.2
     have hc1 := HQ4.out.b.2.2
     have hc2 := HQ4.out.c.2.2
     have hc3 := HQ4.out.d.2.2
     go_wp2_with fail
     clear hc0 hc1 hc2 hc3
     refine (refplaces_any _ _ _ _ a.wher b.wher v4 (H1.out.below HQ4.out.a.1 (Nat.le_refl _)).wh (H2.out.below HQ4.out.a.1 (Nat.le_refl _)).wh).mono ?_
     rintro e v5 ⟨rfl, b5⟩
     have HQ5 := hid (HQ4.out.call b5)
     clear b5
     go_wp2_with fail
     go_ret
     exact ⟨ret_bool HR.out.symm, HQ5.out.a.1⟩
theorem refsame_any (a b : Wd) (p q : Wp) (w : World) (h1 : WorldAt w p a) (h2 : WorldAt w q b) :
 Calls Tryz.prog 10 #[.agg (wC a p), .agg (wC b q)] w fun e w' => e = .returned (.bool (decide (a = b))) ∧ Below w.heap.size w w' := by
 by_cases h : a.d.room = b.d.room ∧ a.d.player = b.d.player ∧ a.d.box = b.d.box ∧ a.d.exits.length = b.d.exits.length ∧ a.d.boxes.length = b.d.boxes.length
 ·exact refsame_go a b p.d.ex p.d.pl p.d.co p.d.it p.d.bo p.at_ p.co p.wh p.d.exc p.d.plc p.d.coc p.d.itc p.d.boc p.atc p.coc p.whc q.d.ex q.d.pl q.d.co q.d.it q.d.bo q.at_ q.co q.wh q.d.exc q.d.plc q.d.coc q.d.itc q.d.boc q.atc q.coc q.whc w h1 h2 h
 ·exact refsame_lens a b p q w h
end
end Go.Proofs.YtgmkcddgkgcbbaaGreat
