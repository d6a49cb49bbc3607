/- KeysOrder: keys rise as their places do; sorted, each is there once. -/
import Derived.Test.YtgmkcddgkgcbbaaKeysE
import Derived.Test.YtgmkcddgkgcbbaaKeysAw
import Derived.Test.YtgmkcddgkgcbbaaKeysArg
import Derived.Deep.DeepCutAuto
namespace Go.Proofs.Ytgmkcddgkgcbbaa
open Go.ChangeShapes Go.WideShapes Go.ChangeAt Go.RowKit
open Lib (hid)
set_option linter.unusedVariables false
set_option maxRecDepth 100000
open Go.RowKit Go
/-- A list, turned: the first so many of it. -/
def turnL (l : List Pl) (t n : Nat) : List Pl := (List.range n).map fun i => l.getD ((i + t) % l.length) ⟨0, 0⟩
theorem turnL_len (l : List Pl) (t n : Nat) : (turnL l t n).length = n := by simp [turnL]
theorem turnL_more (l : List Pl) (t n : Nat) : turnL l t (n + 1) = turnL l t n ++ [l.getD ((n + t) % l.length) ⟨0, 0⟩] := by simp [turnL, List.range_succ]
theorem turnL_sub {l : List Pl} {t n : Nat} (hn : n ≤ l.length) {q : Pl} (h : q ∈ turnL l t n) : q ∈ l := by
 obtain ⟨i, hi, rfl⟩ := List.mem_map.1 h
 have hi := List.mem_range.1 hi
 have hm : (i + t) % l.length < l.length := Nat.mod_lt _ (by omega)
 simp [List.getD, List.getElem?_eq_getElem hm]
theorem turnL_all {l : List Pl} {t : Nat} (q : Pl) : q ∈ turnL l t l.length ↔ q ∈ l := by
 refine ⟨turnL_sub (Nat.le_refl _), fun h => ?_⟩
 obtain ⟨j, hj, rfl⟩ := List.mem_iff_getElem.1 h
 have hp : 0 < l.length := by omega
 refine List.mem_map.2 ⟨(j + (l.length - t % l.length)) % l.length, List.mem_range.2 (Nat.mod_lt _ hp), ?_⟩
 have h1 := Nat.div_add_mod t l.length
 have h2 := Nat.mod_lt t hp
 have h3 : j + (l.length - t % l.length) + t = j + l.length * (t / l.length + 1) := by rw [Nat.mul_add]; omega
 have h4 : ((j + (l.length - t % l.length)) % l.length + t) % l.length = j := by
  rw [Nat.mod_add_mod, h3, Nat.add_mul_mod_self_left, Nat.mod_eq_of_lt hj]
 rw [h4]
 simp [List.getD, List.getElem?_eq_getElem hj]
theorem count_more {s : List Pl} {m : Nat} {z : Pl} (h : m < s.length) : (s.take (m + 1)).count z = (s.take m).count z + (if s[m] = z then 1 else 0) := by
 rw [List.take_succ_eq_append_getElem h, List.count_append]
 by_cases e : s[m] = z <;> simp [e]
theorem mem_more {l : List Pl} {m : Nat} {z : Pl} (h : m < l.length) : decide (z ∈ l.take (m + 1)) = (decide (z ∈ l.take m) || decide (l[m] = z)) := by
 have e : (z = l[m]) = (l[m] = z) := propext eq_comm
 rw [List.take_succ_eq_append_getElem h]
 simp only [List.mem_append, List.mem_singleton, e]
 by_cases a : z ∈ l.take m <;> by_cases b : l[m] = z <;> simp [a, b]
def CellK (W : World) (b o : Nat) (v : Value) : Prop := W.cell? ⟨b, o, none⟩ = some v ∧ b < W.heap.size
theorem CellK.call {W W' : World} {b o : Nat} {v : Value} (h : CellK W b o v) (hb : Below W.heap.size W W') : CellK W' b o v := ⟨kcell_call h.1 h.2 hb, Nat.lt_of_lt_of_le h.2 hb.size⟩
def BelV (V W : World) : Prop := Below V.heap.size V W
theorem BelV.call {V W W' : World} (h : BelV V W) (hb : Below W.heap.size W W') : BelV V W' := bl h hb
theorem run_maxI (a b : Int) (W : World) : (Builtin.max_ #[3, 3] 3 #[.int .i64 a, .int .i64 b]).run Try.prog W = .ok (.int .i64 (max a b)) W := by
 by_cases h : a < b
 ·rw [show max a b = b by omega]; go_simp; omega
 ·rw [show max a b = a by omega]; go_simp; omega
theorem topK_next {r q : Nat} {s : List Pl} {n : Nat} (h : n < s.length) : topK r q s (n + 1) = max (topK r q s n) (placeK r q s[n]) := by
 simp [topK, List.getD, List.getElem?_eq_getElem h]
theorem topK_in {r q : Nat} {s : List Pl} : ∀ n, -1 ≤ topK r q s n ∧ topK r q s n < r + q
 | 0 => by simp only [topK]; omega
 | n + 1 => by
   have h1 := topK_in (r := r) (q := q) (s := s) n
   have h2 := placeK_lt (r := r) (p := q) (s.getD n ⟨0, 0⟩)
   simp only [topK]; omega
theorem keysOrder_few (d : Ds) (dp : Dp) (p : Option Addr) (cap : Nat) (l : List Pl) (tn : Nat) (ht : tn ≤ 255) (w : World) (h : RowAt 2 plC w p l) (hi : ∀ k ∈ l, InK k) (hfw : fewB ⟨d, [], [], []⟩ = false) : Calls Try.prog 5 #[.agg #[.slice dp.ex d.exits.length dp.exc, .slice dp.pl d.players.length dp.plc, .slice dp.co d.coins.length dp.coc, .slice dp.it d.items.length dp.itc, .slice dp.bo d.boxes.length dp.boc, .int .i64 d.room, .int .i64 d.player, .int .i64 d.box], .slice p l.length cap, .int .u8 (tn : Int)] w fun e w' => e = .returned (.bool true) ∧ Below w.heap.size w w' := by
 have HFW := hid hfw
 clear hfw h hi
 have HP0 := hid (Holds.new w #[.slice dp.ex d.exits.length dp.exc, .slice dp.pl d.players.length dp.plc, .slice dp.co d.coins.length dp.coc, .slice dp.it d.items.length dp.itc, .slice dp.bo d.boxes.length dp.boc, .int .i64 d.room, .int .i64 d.player, .int .i64 d.box] 35)
 go_enter Try.func5, Try.ntmps5
 go_wp2_with fail
 generalize w.alloc (.cells #[.slice dp.ex d.exits.length dp.exc, .slice dp.pl d.players.length dp.plc, .slice dp.co d.coins.length dp.coc, .slice dp.it d.items.length dp.itc, .slice dp.bo d.boxes.length dp.boc, .int .i64 d.room, .int .i64 d.player, .int .i64 d.box] 35) = V0 at *
 have HA_0 := hid HP0.out
 have B_0 := hid HA_0.out.1
 clear HP0
 refine (awake14_any _).mono ?_
 rintro e u1 ⟨rfl, b1⟩
 have B_1 := hid (bl B_0.out b1)
 have HA_1 := hid (HA_0.out.call b1)
 clear b1 B_0 HA_0
 have hcHA := HA_1.out.2.2
 have hlHA := HA_1.out.2.1
 go_wp2_with fail
 refine (few_any ⟨d, [], [], []⟩ ⟨dp, none, 0, none, 0, none, 0⟩ _).mono ?_
 rintro e u2 ⟨rfl, b2⟩
 rw [HFW.out]
 clear hcHA hlHA
 have B_2 := hid (bl B_1.out b2)
 have HA_2 := hid (HA_1.out.call b2)
 clear b2 B_1 HA_1
 have hcHA := HA_2.out.2.2
 have hlHA := HA_2.out.2.1
 go_wp2_with fail
 refine (awake14_any _).mono ?_
 rintro e u3 ⟨rfl, b3⟩
 clear hcHA hlHA
 have B_3 := hid (bl B_2.out b3)
 have HA_3 := hid (HA_2.out.call b3)
 clear b3 B_2 HA_2
 have hcHA := HA_3.out.2.2
 have hlHA := HA_3.out.2.1
 go_wp2_with fail
 go_ret
 exact ⟨rfl, B_3.out⟩
theorem keysOrder_long (d : Ds) (dp : Dp) (p : Option Addr) (cap : Nat) (l : List Pl) (tn : Nat) (ht : tn ≤ 255) (w : World) (h : RowAt 2 plC w p l) (hi : ∀ k ∈ l, InK k) (hfw : fewB ⟨d, [], [], []⟩ = true) (k0 : decide ((40 : Int) < (l.length : Int)) = true) : Calls Try.prog 5 #[.agg #[.slice dp.ex d.exits.length dp.exc, .slice dp.pl d.players.length dp.plc, .slice dp.co d.coins.length dp.coc, .slice dp.it d.items.length dp.itc, .slice dp.bo d.boxes.length dp.boc, .int .i64 d.room, .int .i64 d.player, .int .i64 d.box], .slice p l.length cap, .int .u8 (tn : Int)] w fun e w' => e = .returned (.bool true) ∧ Below w.heap.size w w' := by
 have HFW := hid hfw
 clear hfw h hi
 have HP0 := hid (Holds.new w #[.slice dp.ex d.exits.length dp.exc, .slice dp.pl d.players.length dp.plc, .slice dp.co d.coins.length dp.coc, .slice dp.it d.items.length dp.itc, .slice dp.bo d.boxes.length dp.boc, .int .i64 d.room, .int .i64 d.player, .int .i64 d.box] 35)
 go_enter Try.func5, Try.ntmps5
 go_wp2_with fail
 generalize w.alloc (.cells #[.slice dp.ex d.exits.length dp.exc, .slice dp.pl d.players.length dp.plc, .slice dp.co d.coins.length dp.coc, .slice dp.it d.items.length dp.itc, .slice dp.bo d.boxes.length dp.boc, .int .i64 d.room, .int .i64 d.player, .int .i64 d.box] 35) = V0 at *
 have HA_0 := hid HP0.out
 have B_0 := hid HA_0.out.1
 clear HP0
 refine (awake14_any _).mono ?_
 rintro e u1 ⟨rfl, b1⟩
 have B_1 := hid (bl B_0.out b1)
 have HA_1 := hid (HA_0.out.call b1)
 clear b1 B_0 HA_0
 have hcHA := HA_1.out.2.2
 have hlHA := HA_1.out.2.1
 go_wp2_with fail
 refine (few_any ⟨d, [], [], []⟩ ⟨dp, none, 0, none, 0, none, 0⟩ _).mono ?_
 rintro e u2 ⟨rfl, b2⟩
 rw [HFW.out]
 clear hcHA hlHA
 have B_2 := hid (bl B_1.out b2)
 have HA_2 := hid (HA_1.out.call b2)
 clear b2 B_1 HA_1
 have hcHA := HA_2.out.2.2
 have hlHA := HA_2.out.2.1
 go_wp2_with fail
 refine (awake14_any _).mono ?_
 rintro e u3 ⟨rfl, b3⟩
 clear hcHA hlHA
 have B_3 := hid (bl B_2.out b3)
 have HA_3 := hid (HA_2.out.call b3)
 clear b3 B_2 HA_2
 have hcHA := HA_3.out.2.2
 have hlHA := HA_3.out.2.1
 go_wp2_with fail
 go_ret
 exact ⟨rfl, B_3.out⟩
set_option maxHeartbeats 4000000 in
theorem keysOrder_go (d : Ds) (dp : Dp) (p : Option Addr) (cap : Nat) (l : List Pl) (tn : Nat) (ht : tn ≤ 255) (w : World) (h : RowAt 2 plC w p l) (hi : ∀ k ∈ l, InK k) (hfw : fewB ⟨d, [], [], []⟩ = true) (k0 : decide ((40 : Int) < (l.length : Int)) = false) : Calls Try.prog 5 #[.agg #[.slice dp.ex d.exits.length dp.exc, .slice dp.pl d.players.length dp.plc, .slice dp.co d.coins.length dp.coc, .slice dp.it d.items.length dp.itc, .slice dp.bo d.boxes.length dp.boc, .int .i64 d.room, .int .i64 d.player, .int .i64 d.box], .slice p l.length cap, .int .u8 (tn : Int)] w fun e w' => e = .returned (.bool true) ∧ Below w.heap.size w w' := by
 have HFW := hid hfw
 have HWA := hid h
 have HI := hid hi
 have hl40 : l.length ≤ 40 := by simp at k0; omega
 have HL := hid (show l.length ≤ 1000 by omega)
 have hm := h.len
 have hr20 : d.exits.length ≤ 20 ∧ d.players.length ≤ 20 := by simp [fewB] at hfw; omega
 have R1 := hid hr20.1
 have R2 := hid hr20.2
 have H1 := hid (show d.exits.length ≤ 1000000 by omega)
 have H2 := hid (show d.players.length ≤ 1000000 by omega)
 clear hfw h hi hr20
 have HP0 := hid (Holds.new w #[.slice dp.ex d.exits.length dp.exc, .slice dp.pl d.players.length dp.plc, .slice dp.co d.coins.length dp.coc, .slice dp.it d.items.length dp.itc, .slice dp.bo d.boxes.length dp.boc, .int .i64 d.room, .int .i64 d.player, .int .i64 d.box] 35)
 go_enter Try.func5, Try.ntmps5
 go_wp2_with fail
 generalize w.alloc (.cells #[.slice dp.ex d.exits.length dp.exc, .slice dp.pl d.players.length dp.plc, .slice dp.co d.coins.length dp.coc, .slice dp.it d.items.length dp.itc, .slice dp.bo d.boxes.length dp.boc, .int .i64 d.room, .int .i64 d.player, .int .i64 d.box] 35) = V0 at *
 have HA_0 := hid HP0.out
 have B_0 := hid HA_0.out.1
 clear HP0
 refine (awake14_any _).mono ?_
 rintro e u1 ⟨rfl, b1⟩
 have B_1 := hid (bl B_0.out b1)
 have HA_1 := hid (HA_0.out.call b1)
 clear b1 B_0 HA_0
 have hcHA := HA_1.out.2.2
 have hlHA := HA_1.out.2.1
 go_wp2_with fail
 refine (few_any ⟨d, [], [], []⟩ ⟨dp, none, 0, none, 0, none, 0⟩ _).mono ?_
 rintro e u2 ⟨rfl, b2⟩
 rw [HFW.out]
 clear hcHA hlHA
 have B_2 := hid (bl B_1.out b2)
 have HA_2 := hid (HA_1.out.call b2)
 clear b2 B_1 HA_1
 have hcHA := HA_2.out.2.2
 have hlHA := HA_2.out.2.1
 go_wp2_with fail
 refine (ksort_any p cap l _ (RowAt.below HWA.out B_2.out (Nat.le_refl _)) HI.out HL.out).mono ?_
 rintro e u3 ⟨sb, sc, s, rfl, hs, hO, b3⟩
 clear hcHA hlHA
 have B_3 := hid (bl B_2.out b3)
 have HA_3 := hid (HA_2.out.call b3)
 clear b3 B_2 HA_2
 have HS := hid hs
 have hsl := hs.len
 have S0 := hid hO.row
 have L0 := hid (RowAt.below HWA.out B_3.out (Nat.le_refl _))
 clear hs hO
 generalize hV : u3 = V at *
 clear hV
 have HLT := hid HA_3.out.2.1
 have BV := hid B_3.out
 have HDC := hid HA_3.out.2.2
 clear B_3 HA_3
 skip
 go_wp2_with fail
 go_loopw [8, 9, 10] (fun i _ _ wr => ∃ k : Nat, k ≤ l.length ∧ i = .int .i64 k ∧ Below V.heap.size V wr) (fun i _ _ _ => l.length - (intOf i).toNat)
 case atStart => exact ⟨0, Nat.zero_le _, rfl, Below.refl _ _⟩
 case round =>
  obtain ⟨k, hk, rfl, hB⟩ := hrel
  have HB := hid hB
  clear hB
  by_cases hlt : k < l.length
  ·obtain ⟨b, o, rfl, hbb, c0, c1⟩ := PlsAt.cells L0.out hlt
   have HC := hid (HS.out.count (List.getElem_mem hlt))
   generalize l[k] = z at *
   obtain ⟨z0, z1⟩ := z
   simp only at c0 c1
   have C0 := hid c0
   have C1 := hid c1
   have CB := hid hbb
   clear c0 c1 hbb
   have hw : IntKind.i64.wrap ((k : Int) + 1) = (k : Int) + 1 := IntWalk.i64_in _ (by omega)
   go_wp2_with fail
   obtain ⟨wp, hwp⟩ : ∃ q, q = wr := ⟨_, rfl⟩
   subst hwp
   go_loopw [9, 10] (fun c j wr => ∃ m : Nat, m ≤ s.length ∧ j = .int .i64 m ∧ c = .int .i64 ((s.take m).count ⟨z0, z1⟩ : Nat) ∧ Below V.heap.size V wr) (fun _ j _ => s.length - (intOf j).toNat)
   case atStart => exact ⟨0, Nat.zero_le _, rfl, rfl, HB.out⟩
   case round =>
    obtain ⟨m, hm2, rfl, rfl, hB2⟩ := hrel
    have HB2 := hid hB2
    have hcn := List.count_le_length (a := (⟨z0, z1⟩ : Pl)) (l := s.take m)
    rw [List.length_take] at hcn
    clear hB2
    by_cases hlt2 : m < s.length
    ·obtain ⟨g, go, rfl, hgb, d0, d1⟩ := PlsAt.cells S0.out hlt2
     have HX := hid (count_more (z := ⟨z0, z1⟩) hlt2)
     generalize s[m] = y at *
     obtain ⟨y0, y1⟩ := y
     simp only at d0 d1
     have e0 := kcell_call d0 hgb HB2.out
     have e1 := kcell_call d1 hgb HB2.out
     have e2 := kcell_call C0.out CB.out HB2.out
     have e3 := kcell_call C1.out CB.out HB2.out
     clear d0 d1 hgb
     have hrun := run_keq y0 y1 z0 z1
     have hw2 : IntKind.i64.wrap ((m : Int) + 1) = (m : Int) + 1 := IntWalk.i64_in _ (by omega)
     have hw3 : IntKind.i64.wrap ((((s.take m).count ⟨z0, z1⟩ : Nat) : Int) + 1) = (((s.take m).count ⟨z0, z1⟩ : Nat) : Int) + 1 := IntWalk.i64_in _ (by omega)
     by_cases he : (⟨y0, y1⟩ : Pl) = ⟨z0, z1⟩
     ·simp only [he, if_true] at HX
      simp only [he, decide_true] at hrun
      clear he
      generalize (s.take m).count ⟨z0, z1⟩ = cc at *
      go_wp2_with fail
      go_quiet (fail)
      go_wp2_with fail
      go_roundw
      case rel => exact ⟨m + 1, by omega, by go_num, by rw [HX.out]; go_num, bdrew HB2.out _⟩
      case measure => simp [intOf]; omega
     ·simp only [he, if_false, Nat.add_zero] at HX
      simp only [he, decide_false] at hrun
      clear he
      generalize (s.take m).count ⟨z0, z1⟩ = cc at *
      go_wp2_with fail
      go_quiet (fail)
      go_wp2_with fail
      go_roundw
      case rel => exact ⟨m + 1, by omega, by go_num, by rw [HX.out], bdrew HB2.out _⟩
      case measure => simp [intOf]; omega
    ·have hke : m = s.length := by omega
     subst hke
     rw [List.take_length, HC.out]
     clear hcn
     go_wp2_with fail
     go_roundw
     case rel => exact ⟨k + 1, by omega, by go_num, HB2.out⟩
     case measure => simp [intOf]; omega
  ·have hke : k = l.length := by omega
   subst hke
   go_wp2_with fail
   obtain ⟨wq, hwq⟩ : ∃ q, q = wr := ⟨_, rfl⟩
   subst hwq
   go_loopw [11, 12, 13, 14, 15] (fun t i _ _ _ wr => ∃ k : Nat, k ≤ s.length ∧ i = .int .i64 k ∧ t = .int .i64 (topK d.exits.length d.players.length s k) ∧ Below V.heap.size V wr) (fun _ i _ _ _ _ => s.length - (intOf i).toNat)
   case atStart => exact ⟨0, Nat.zero_le _, rfl, rfl, HB.out⟩
   case round =>
    obtain ⟨k, hk, rfl, rfl, hB3⟩ := hrel
    have HB3 := hid hB3
    clear hB3
    by_cases hlt : k < s.length
    ·obtain ⟨g, go, rfl, hgb, d0, d1⟩ := PlsAt.cells S0.out hlt
     have HZM := hid ((HS.out.mem s[k]).1 (List.getElem_mem hlt))
     have HTN := hid (topK_next (r := d.exits.length) (q := d.players.length) hlt)
     have HTL := hid (topK_less (r := d.exits.length) (p := d.players.length) HS.out k hlt)
     have HTI := hid (topK_in (r := d.exits.length) (q := d.players.length) (s := s) k)
     have HPV : Hid (∀ h : 0 < k, ∃ y0 y1 : Int, s[k - 1]'(by omega) = ⟨y0, y1⟩ ∧ lessK ⟨y0, y1⟩ s[k] = true ∧ V.cell? ⟨g, go + (k - 1) * 2, none⟩ = some (.int .i64 y0) ∧ V.cell? ⟨g, go + (k - 1) * 2 + 1, none⟩ = some (.int .i64 y1)) := hid (fun h => by
      obtain ⟨g2, go2, e2, _, d2, d3⟩ := PlsAt.cells S0.out (show k - 1 < s.length by omega)
      cases e2
      exact ⟨_, _, rfl, HS.out.rise (show k - 1 < k by omega) hlt, d2, d3⟩)
     have HPZ := hid (placeK_lt (r := d.exits.length) (p := d.players.length) s[k])
     generalize s[k] = z at *
     obtain ⟨z0, z1⟩ := z
     simp only at d0 d1
     have D0 := hid d0
     have D1 := hid d1
     have GB := hid hgb
     clear d0 d1 hgb
     generalize topK d.exits.length d.players.length s k = tp at *
     have hw : IntKind.i64.wrap ((k : Int) + 1) = (k : Int) + 1 := IntWalk.i64_in _ (by omega)
     go_wp2_with fail
     obtain ⟨wp, hwp⟩ : ∃ q, q = wr := ⟨_, rfl⟩
     subst hwp
     go_loopw [13, 14] (fun f j wr => ∃ m : Nat, m ≤ l.length ∧ j = .int .i64 m ∧ f = .bool (decide ((⟨z0, z1⟩ : Pl) ∈ l.take m)) ∧ Below V.heap.size V wr) (fun _ j _ => l.length - (intOf j).toNat)
     case atStart => exact ⟨0, Nat.zero_le _, rfl, by simp, HB3.out⟩
     case round =>
      obtain ⟨m, hm2, rfl, rfl, hB4⟩ := hrel
      have HB4 := hid hB4
      clear hB4
      by_cases hlt2 : m < l.length
      ·have HMM := hid (mem_more (z := ⟨z0, z1⟩) hlt2)
       obtain ⟨b, o, rfl, hbb, c0, c1⟩ := PlsAt.cells L0.out hlt2
       generalize l[m] = y at *
       obtain ⟨y0, y1⟩ := y
       simp only at c0 c1
       have e0 := kcell_call c0 hbb HB4.out
       have e1 := kcell_call c1 hbb HB4.out
       have e2 := kcell_call D0.out GB.out HB4.out
       have e3 := kcell_call D1.out GB.out HB4.out
       clear c0 c1 hbb
       have hrun := run_keq y0 y1 z0 z1
       have hw2 : IntKind.i64.wrap ((m : Int) + 1) = (m : Int) + 1 := IntWalk.i64_in _ (by omega)
       cases hin : decide ((⟨z0, z1⟩ : Pl) ∈ l.take m)
       ·rw [hin, Bool.false_or] at HMM
        clear hin
        by_cases he : (⟨y0, y1⟩ : Pl) = ⟨z0, z1⟩
        ·simp only [he, decide_true] at hrun
         simp only [he, decide_true] at HMM
         clear he
         go_wp2_with fail
         go_quiet (fail)
         go_wp2_with fail
         go_roundw
         case rel => exact ⟨m + 1, by omega, by go_num, by rw [HMM.out], bdrew HB4.out _⟩
         case measure => simp [intOf]; omega
        ·simp only [he, decide_false] at hrun
         simp only [he, decide_false] at HMM
         clear he
         go_wp2_with fail
         go_quiet (fail)
         go_wp2_with fail
         go_roundw
         case rel => exact ⟨m + 1, by omega, by go_num, by rw [HMM.out], bdrew HB4.out _⟩
         case measure => simp [intOf]; omega
       ·rw [hin, Bool.true_or] at HMM
        clear hin hrun
        go_wp2_with fail
        go_quiet (fail)
        go_wp2_with fail
        go_roundw
        case rel => exact ⟨m + 1, by omega, by go_num, by rw [HMM.out], bdrew HB4.out _⟩
        case measure => simp [intOf]; omega
      ·have hke : m = l.length := by omega
       subst hke
       rw [List.take_length, decide_eq_true HZM.out]
       have HPP := hid (show ∃ pz, placeK d.exits.length d.players.length ⟨z0, z1⟩ = pz from ⟨_, rfl⟩)
       obtain ⟨pz, hpz⟩ := HPP.out
       have HPE := hid hpz
       clear hpz HPP
       have B_90 := hid (bl BV.out HB4.out)
       have HA_90 := hid (show Holds w w.heap.size #[.slice dp.ex d.exits.length dp.exc, .slice dp.pl d.players.length dp.plc, .slice dp.co d.coins.length dp.coc, .slice dp.it d.items.length dp.itc, .slice dp.bo d.boxes.length dp.boc, .int .i64 d.room, .int .i64 d.player, .int .i64 d.box] wr from ⟨B_90.out, Nat.lt_of_lt_of_le HLT.out HB4.out.size, fun i => (HB4.out.cell (p := ⟨w.heap.size, i, none⟩) HLT.out).trans (HDC.out i)⟩)
       have EA_90 := hid (show CellK wr g (go + k * 2) (.int .i64 z0) from ⟨kcell_call D0.out GB.out HB4.out, Nat.lt_of_lt_of_le GB.out HB4.out.size⟩)
       have EB_90 := hid (show CellK wr g (go + k * 2 + 1) (.int .i64 z1) from ⟨kcell_call D1.out GB.out HB4.out, Nat.lt_of_lt_of_le GB.out HB4.out.size⟩)
       have VB_90 := hid (show BelV V wr from HB4.out)
       clear HB4
       go_upto_region 24 with fail
       have KS : Hid (∀ w', Below wr.heap.size wr w' → Below wr.heap.size wr w' ∧ (∀ ii, w'.cell? ⟨w.heap.size, ii, none⟩ = (#[.slice dp.ex d.exits.length dp.exc, .slice dp.pl d.players.length dp.plc, .slice dp.co d.coins.length dp.coc, .slice dp.it d.items.length dp.itc, .slice dp.bo d.boxes.length dp.boc, .int .i64 d.room, .int .i64 d.player, .int .i64 d.box][ii]? : Option Value)) ∧ w'.cell? ⟨g, go + k * 2, none⟩ = some (.int .i64 z0) ∧ w'.cell? ⟨g, go + k * 2 + 1, none⟩ = some (.int .i64 z1)) := hid (fun w' hb => ⟨hb, fun ii => (hb.cell (p := ⟨w.heap.size, ii, none⟩) HA_90.out.2.1).trans (HA_90.out.2.2 ii), cell_call EA_90.out.1 hb, cell_call EB_90.out.1 hb⟩)
       have D0 := hid (bdrew1 (Below.refl wr.heap.size wr))
       refine tkS (S := (fun w' => Below wr.heap.size wr w' ∧ (∀ ii, w'.cell? ⟨w.heap.size, ii, none⟩ = (#[.slice dp.ex d.exits.length dp.exc, .slice dp.pl d.players.length dp.plc, .slice dp.co d.coins.length dp.coc, .slice dp.it d.items.length dp.itc, .slice dp.bo d.boxes.length dp.boc, .int .i64 d.room, .int .i64 d.player, .int .i64 d.box][ii]? : Option Value)) ∧ w'.cell? ⟨g, go + k * 2, none⟩ = some (.int .i64 z0) ∧ w'.cell? ⟨g, go + k * 2 + 1, none⟩ = some (.int .i64 z1))) (by (first | (with_reducible exact KS.out _ D0.out))) (fun hHeld => ?_)
       refine tkl [0, 1, 2, 3, 4] ?_
       iterate 5
        refine tW ?_
        try go_frame
       refine rdy1 5 (fun K hK => ?_)
       go_simp
       refine (kplace_any d dp ⟨z0, z1⟩ _ H1.out H2.out).mono ?_; rintro e x1 ⟨rfl, hb9⟩; have D1 := hid (below_call D0.out D0.out.size hb9); rw [HPE.out]; clear hb9
       try go_wp2_with fail
       refine hK.out _ _ (by (first | (with_reducible exact KS.out _ D1.out))) (fun hHeld => ?_)
       clear hK K
       try go_frame
       refine tkl [6] (tW ?_)
       try go_frame
       refine tkD ?_
       clear hHeld KS
       have B_91 := hid (bl B_90.out D1.out)
       have HA_91 := hid (HA_90.out.call D1.out)
       have EA_91 := hid (EA_90.out.call D1.out)
       have EB_91 := hid (EB_90.out.call D1.out)
       have VB_91 := hid (VB_90.out.call D1.out)
       clear B_90 HA_90 EA_90 EB_90 VB_90 D0 D1
       rw [HPE.out] at HTN
       rw [HPE.out] at HTL
       rw [HPE.out] at HPZ
       go_upto_region 25 with fail
       by_cases hkp : 0 < k
       ·by_cases hpp : 0 ≤ pz
        ·have HKP := hid hkp
         obtain ⟨y0, y1, -, hls, f0, f1⟩ := HPV.out hkp
         have HLS := hid hls
         have FA_91 := hid (show CellK x1 g (go + (k - 1) * 2) (.int .i64 y0) from ⟨kcell_call f0 GB.out VB_91.out, EA_91.out.2⟩)
         have FB_91 := hid (show CellK x1 g (go + (k - 1) * 2 + 1) (.int .i64 y1) from ⟨kcell_call f1 GB.out VB_91.out, EA_91.out.2⟩)
         clear hls f0 f1
         have q0 : decide ((0 : Int) < (k : Int)) = true := by simpa using hkp
         have q1 : (0 < k) = True := by simpa using hkp
         have i0 : ((k : Int) - 1).toNat = k - 1 := by omega
         have i1 : (0 : Int) ≤ (k : Int) - 1 := by omega
         have i2 : (k : Int) - 1 < (s.length : Int) := by omega
         have i4 : (1 : Int) ≤ (k : Int) := by omega
         have iw : IntKind.i64.wrap ((k : Int) - 1) = (k : Int) - 1 := IntWalk.i64_in _ (by omega)
         have p0 : decide ((0 : Int) ≤ pz) = true := by simpa using hpp
         have p1 : decide (pz ≤ tp) = false := by have := HTL.out hpp; simp; omega
         clear hkp hpp
         have KS : Hid (∀ w', Below x1.heap.size x1 w' → Below x1.heap.size x1 w' ∧ (∀ ii, w'.cell? ⟨w.heap.size, ii, none⟩ = (#[.slice dp.ex d.exits.length dp.exc, .slice dp.pl d.players.length dp.plc, .slice dp.co d.coins.length dp.coc, .slice dp.it d.items.length dp.itc, .slice dp.bo d.boxes.length dp.boc, .int .i64 d.room, .int .i64 d.player, .int .i64 d.box][ii]? : Option Value)) ∧ w'.cell? ⟨g, go + k * 2, none⟩ = some (.int .i64 z0) ∧ w'.cell? ⟨g, go + k * 2 + 1, none⟩ = some (.int .i64 z1) ∧ w'.cell? ⟨g, go + (k - 1) * 2, none⟩ = some (.int .i64 y0) ∧ w'.cell? ⟨g, go + (k - 1) * 2 + 1, none⟩ = some (.int .i64 y1)) := hid (fun w' hb => ⟨hb, fun ii => (hb.cell (p := ⟨w.heap.size, ii, none⟩) HA_91.out.2.1).trans (HA_91.out.2.2 ii), cell_call EA_91.out.1 hb, cell_call EB_91.out.1 hb, cell_call FA_91.out.1 hb, cell_call FB_91.out.1 hb⟩)
         have D0 := hid (bdrew1 (Below.refl x1.heap.size x1))
         refine tkS (S := (fun w' => Below x1.heap.size x1 w' ∧ (∀ ii, w'.cell? ⟨w.heap.size, ii, none⟩ = (#[.slice dp.ex d.exits.length dp.exc, .slice dp.pl d.players.length dp.plc, .slice dp.co d.coins.length dp.coc, .slice dp.it d.items.length dp.itc, .slice dp.bo d.boxes.length dp.boc, .int .i64 d.room, .int .i64 d.player, .int .i64 d.box][ii]? : Option Value)) ∧ w'.cell? ⟨g, go + k * 2, none⟩ = some (.int .i64 z0) ∧ w'.cell? ⟨g, go + k * 2 + 1, none⟩ = some (.int .i64 z1) ∧ w'.cell? ⟨g, go + (k - 1) * 2, none⟩ = some (.int .i64 y0) ∧ w'.cell? ⟨g, go + (k - 1) * 2 + 1, none⟩ = some (.int .i64 y1))) (by (first | (with_reducible exact KS.out _ D0.out))) (fun hHeld => ?_)
         refine tkl [0, 1, 2, 3, 4, 5] ?_
         iterate 6
          refine tW ?_
          try go_frame
         refine tkl [6, 7, 8, 9, 10, 11, 12, 13, 14] ?_
         iterate 9
          refine tW ?_
          try go_frame
         refine rdy1 15 (fun K hK => ?_)
         go_simp
         refine (kless_any ⟨y0, y1⟩ ⟨z0, z1⟩ _).mono ?_; rintro e x1 ⟨rfl, hb9⟩; have D1 := hid (below_call D0.out D0.out.size hb9); rw [HLS.out]; clear hb9
         try go_wp2_with fail
         refine hK.out _ _ (by (first | (with_reducible exact KS.out _ D1.out))) (fun hHeld => ?_)
         clear hK K
         try go_frame
         refine tkl [16] (tW ?_)
         try go_frame
         refine tkl [17, 18, 19, 20, 21, 22] ?_
         iterate 6
          refine tW ?_
          try go_frame
         refine tkl [23, 24, 25] ?_
         iterate 3
          refine tW ?_
          try go_frame
         refine tkl [26, 27] ?_
         iterate 2
          refine tW ?_
          try go_frame
         refine tkD ?_
         clear hHeld KS
         have B_92 := hid (bl B_91.out D1.out)
         have HA_92 := hid (HA_91.out.call D1.out)
         have EA_92 := hid (EA_91.out.call D1.out)
         have EB_92 := hid (EB_91.out.call D1.out)
         have VB_92 := hid (VB_91.out.call D1.out)
         have FA_92 := hid (FA_91.out.call D1.out)
         have FB_92 := hid (FB_91.out.call D1.out)
         clear B_91 HA_91 EA_91 EB_91 VB_91 FA_91 FB_91 D0 D1
         have hmx := run_maxI tp pz
         go_wp2_with fail
         go_roundw
         case rel => exact ⟨k + 1, by omega, by go_num, by rw [HTN.out], VB_92.out⟩
         case measure => simp [intOf]; omega
        ·have HKP := hid hkp
         obtain ⟨y0, y1, -, hls, f0, f1⟩ := HPV.out hkp
         have HLS := hid hls
         have FA_91 := hid (show CellK x1 g (go + (k - 1) * 2) (.int .i64 y0) from ⟨kcell_call f0 GB.out VB_91.out, EA_91.out.2⟩)
         have FB_91 := hid (show CellK x1 g (go + (k - 1) * 2 + 1) (.int .i64 y1) from ⟨kcell_call f1 GB.out VB_91.out, EA_91.out.2⟩)
         clear hls f0 f1
         have q0 : decide ((0 : Int) < (k : Int)) = true := by simpa using hkp
         have q1 : (0 < k) = True := by simpa using hkp
         have i0 : ((k : Int) - 1).toNat = k - 1 := by omega
         have i1 : (0 : Int) ≤ (k : Int) - 1 := by omega
         have i2 : (k : Int) - 1 < (s.length : Int) := by omega
         have i4 : (1 : Int) ≤ (k : Int) := by omega
         have iw : IntKind.i64.wrap ((k : Int) - 1) = (k : Int) - 1 := IntWalk.i64_in _ (by omega)
         have p0 : decide ((0 : Int) ≤ pz) = false := by simpa using hpp
         clear hkp hpp
         have KS : Hid (∀ w', Below x1.heap.size x1 w' → Below x1.heap.size x1 w' ∧ (∀ ii, w'.cell? ⟨w.heap.size, ii, none⟩ = (#[.slice dp.ex d.exits.length dp.exc, .slice dp.pl d.players.length dp.plc, .slice dp.co d.coins.length dp.coc, .slice dp.it d.items.length dp.itc, .slice dp.bo d.boxes.length dp.boc, .int .i64 d.room, .int .i64 d.player, .int .i64 d.box][ii]? : Option Value)) ∧ w'.cell? ⟨g, go + k * 2, none⟩ = some (.int .i64 z0) ∧ w'.cell? ⟨g, go + k * 2 + 1, none⟩ = some (.int .i64 z1) ∧ w'.cell? ⟨g, go + (k - 1) * 2, none⟩ = some (.int .i64 y0) ∧ w'.cell? ⟨g, go + (k - 1) * 2 + 1, none⟩ = some (.int .i64 y1)) := hid (fun w' hb => ⟨hb, fun ii => (hb.cell (p := ⟨w.heap.size, ii, none⟩) HA_91.out.2.1).trans (HA_91.out.2.2 ii), cell_call EA_91.out.1 hb, cell_call EB_91.out.1 hb, cell_call FA_91.out.1 hb, cell_call FB_91.out.1 hb⟩)
         have D0 := hid (bdrew1 (Below.refl x1.heap.size x1))
         refine tkS (S := (fun w' => Below x1.heap.size x1 w' ∧ (∀ ii, w'.cell? ⟨w.heap.size, ii, none⟩ = (#[.slice dp.ex d.exits.length dp.exc, .slice dp.pl d.players.length dp.plc, .slice dp.co d.coins.length dp.coc, .slice dp.it d.items.length dp.itc, .slice dp.bo d.boxes.length dp.boc, .int .i64 d.room, .int .i64 d.player, .int .i64 d.box][ii]? : Option Value)) ∧ w'.cell? ⟨g, go + k * 2, none⟩ = some (.int .i64 z0) ∧ w'.cell? ⟨g, go + k * 2 + 1, none⟩ = some (.int .i64 z1) ∧ w'.cell? ⟨g, go + (k - 1) * 2, none⟩ = some (.int .i64 y0) ∧ w'.cell? ⟨g, go + (k - 1) * 2 + 1, none⟩ = some (.int .i64 y1))) (by (first | (with_reducible exact KS.out _ D0.out))) (fun hHeld => ?_)
         refine tkl [0, 1, 2, 3, 4, 5] ?_
         iterate 6
          refine tW ?_
          try go_frame
         refine tkl [6, 7, 8, 9, 10, 11, 12, 13, 14] ?_
         iterate 9
          refine tW ?_
          try go_frame
         refine rdy1 15 (fun K hK => ?_)
         go_simp
         refine (kless_any ⟨y0, y1⟩ ⟨z0, z1⟩ _).mono ?_; rintro e x1 ⟨rfl, hb9⟩; have D1 := hid (below_call D0.out D0.out.size hb9); rw [HLS.out]; clear hb9
         try go_wp2_with fail
         refine hK.out _ _ (by (first | (with_reducible exact KS.out _ D1.out))) (fun hHeld => ?_)
         clear hK K
         try go_frame
         refine tkl [16] (tW ?_)
         try go_frame
         refine tkl [17, 18, 19, 20, 21, 22] ?_
         iterate 6
          refine tW ?_
          try go_frame
         refine tkl [23, 24, 25] ?_
         iterate 3
          refine tN ?_
          try go_frame
         refine tkl [26, 27] ?_
         iterate 2
          refine tW ?_
          try go_frame
         refine tkD ?_
         clear hHeld KS
         have B_92 := hid (bl B_91.out D1.out)
         have HA_92 := hid (HA_91.out.call D1.out)
         have EA_92 := hid (EA_91.out.call D1.out)
         have EB_92 := hid (EB_91.out.call D1.out)
         have VB_92 := hid (VB_91.out.call D1.out)
         have FA_92 := hid (FA_91.out.call D1.out)
         have FB_92 := hid (FB_91.out.call D1.out)
         clear B_91 HA_91 EA_91 EB_91 VB_91 FA_91 FB_91 D0 D1
         have hmx := run_maxI tp pz
         go_wp2_with fail
         go_roundw
         case rel => exact ⟨k + 1, by omega, by go_num, by rw [HTN.out], VB_92.out⟩
         case measure => simp [intOf]; omega
       ·by_cases hpp : 0 ≤ pz
        ·have q0 : decide ((0 : Int) < (k : Int)) = false := by simpa using hkp
         have q1 : (0 < k) = False := by simpa using hkp
         have p0 : decide ((0 : Int) ≤ pz) = true := by simpa using hpp
         have p1 : decide (pz ≤ tp) = false := by have := HTL.out hpp; simp; omega
         clear hkp hpp
         have KS : Hid (∀ w', Below x1.heap.size x1 w' → Below x1.heap.size x1 w' ∧ (∀ ii, w'.cell? ⟨w.heap.size, ii, none⟩ = (#[.slice dp.ex d.exits.length dp.exc, .slice dp.pl d.players.length dp.plc, .slice dp.co d.coins.length dp.coc, .slice dp.it d.items.length dp.itc, .slice dp.bo d.boxes.length dp.boc, .int .i64 d.room, .int .i64 d.player, .int .i64 d.box][ii]? : Option Value)) ∧ w'.cell? ⟨g, go + k * 2, none⟩ = some (.int .i64 z0) ∧ w'.cell? ⟨g, go + k * 2 + 1, none⟩ = some (.int .i64 z1)) := hid (fun w' hb => ⟨hb, fun ii => (hb.cell (p := ⟨w.heap.size, ii, none⟩) HA_91.out.2.1).trans (HA_91.out.2.2 ii), cell_call EA_91.out.1 hb, cell_call EB_91.out.1 hb⟩)
         have D0 := hid (bdrew1 (Below.refl x1.heap.size x1))
         refine tkS (S := (fun w' => Below x1.heap.size x1 w' ∧ (∀ ii, w'.cell? ⟨w.heap.size, ii, none⟩ = (#[.slice dp.ex d.exits.length dp.exc, .slice dp.pl d.players.length dp.plc, .slice dp.co d.coins.length dp.coc, .slice dp.it d.items.length dp.itc, .slice dp.bo d.boxes.length dp.boc, .int .i64 d.room, .int .i64 d.player, .int .i64 d.box][ii]? : Option Value)) ∧ w'.cell? ⟨g, go + k * 2, none⟩ = some (.int .i64 z0) ∧ w'.cell? ⟨g, go + k * 2 + 1, none⟩ = some (.int .i64 z1))) (by (first | (with_reducible exact KS.out _ D0.out))) (fun hHeld => ?_)
         refine tkl [0, 1, 2, 3, 4, 5] ?_
         iterate 6
          refine tW ?_
          try go_frame
         refine tkl [6, 7, 8, 9, 10, 11, 12, 13, 14, 15, 16] ?_
         iterate 11
          refine tN ?_
          try go_frame
         refine tkl [17, 18, 19, 20, 21, 22] ?_
         iterate 6
          refine tW ?_
          try go_frame
         refine tkl [23, 24, 25] ?_
         iterate 3
          refine tW ?_
          try go_frame
         refine tkl [26, 27] ?_
         iterate 2
          refine tW ?_
          try go_frame
         refine tkD ?_
         clear hHeld KS
         have B_92 := hid (bl B_91.out D0.out)
         have HA_92 := hid (HA_91.out.call D0.out)
         have EA_92 := hid (EA_91.out.call D0.out)
         have EB_92 := hid (EB_91.out.call D0.out)
         have VB_92 := hid (VB_91.out.call D0.out)
         clear B_91 HA_91 EA_91 EB_91 VB_91 D0
         generalize x1.drew = V900 at *
         have hmx := run_maxI tp pz
         go_wp2_with fail
         go_roundw
         case rel => exact ⟨k + 1, by omega, by go_num, by rw [HTN.out], VB_92.out⟩
         case measure => simp [intOf]; omega
        ·have q0 : decide ((0 : Int) < (k : Int)) = false := by simpa using hkp
         have q1 : (0 < k) = False := by simpa using hkp
         have p0 : decide ((0 : Int) ≤ pz) = false := by simpa using hpp
         clear hkp hpp
         have KS : Hid (∀ w', Below x1.heap.size x1 w' → Below x1.heap.size x1 w' ∧ (∀ ii, w'.cell? ⟨w.heap.size, ii, none⟩ = (#[.slice dp.ex d.exits.length dp.exc, .slice dp.pl d.players.length dp.plc, .slice dp.co d.coins.length dp.coc, .slice dp.it d.items.length dp.itc, .slice dp.bo d.boxes.length dp.boc, .int .i64 d.room, .int .i64 d.player, .int .i64 d.box][ii]? : Option Value)) ∧ w'.cell? ⟨g, go + k * 2, none⟩ = some (.int .i64 z0) ∧ w'.cell? ⟨g, go + k * 2 + 1, none⟩ = some (.int .i64 z1)) := hid (fun w' hb => ⟨hb, fun ii => (hb.cell (p := ⟨w.heap.size, ii, none⟩) HA_91.out.2.1).trans (HA_91.out.2.2 ii), cell_call EA_91.out.1 hb, cell_call EB_91.out.1 hb⟩)
         have D0 := hid (bdrew1 (Below.refl x1.heap.size x1))
         refine tkS (S := (fun w' => Below x1.heap.size x1 w' ∧ (∀ ii, w'.cell? ⟨w.heap.size, ii, none⟩ = (#[.slice dp.ex d.exits.length dp.exc, .slice dp.pl d.players.length dp.plc, .slice dp.co d.coins.length dp.coc, .slice dp.it d.items.length dp.itc, .slice dp.bo d.boxes.length dp.boc, .int .i64 d.room, .int .i64 d.player, .int .i64 d.box][ii]? : Option Value)) ∧ w'.cell? ⟨g, go + k * 2, none⟩ = some (.int .i64 z0) ∧ w'.cell? ⟨g, go + k * 2 + 1, none⟩ = some (.int .i64 z1))) (by (first | (with_reducible exact KS.out _ D0.out))) (fun hHeld => ?_)
         refine tkl [0, 1, 2, 3, 4, 5] ?_
         iterate 6
          refine tW ?_
          try go_frame
         refine tkl [6, 7, 8, 9, 10, 11, 12, 13, 14, 15, 16] ?_
         iterate 11
          refine tN ?_
          try go_frame
         refine tkl [17, 18, 19, 20, 21, 22] ?_
         iterate 6
          refine tW ?_
          try go_frame
         refine tkl [23, 24, 25] ?_
         iterate 3
          refine tN ?_
          try go_frame
         refine tkl [26, 27] ?_
         iterate 2
          refine tW ?_
          try go_frame
         refine tkD ?_
         clear hHeld KS
         have B_92 := hid (bl B_91.out D0.out)
         have HA_92 := hid (HA_91.out.call D0.out)
         have EA_92 := hid (EA_91.out.call D0.out)
         have EB_92 := hid (EB_91.out.call D0.out)
         have VB_92 := hid (VB_91.out.call D0.out)
         clear B_91 HA_91 EA_91 EB_91 VB_91 D0
         generalize x1.drew = V900 at *
         have hmx := run_maxI tp pz
         go_wp2_with fail
         go_roundw
         case rel => exact ⟨k + 1, by omega, by go_num, by rw [HTN.out], VB_92.out⟩
         case measure => simp [intOf]; omega
    ·have hke : k = s.length := by omega
     subst hke
     go_wp2_with fail
     obtain ⟨wt, hwt⟩ : ∃ q, q = wr := ⟨_, rfl⟩
     subst hwt
     go_loopw [16, 17] (fun v i wr => ∃ k : Nat, k ≤ l.length ∧ i = .int .i64 k ∧ GrowR 2 24 plC V.heap.size wr v (turnL l tn k) ∧ Below V.heap.size V wr) (fun _ i _ => l.length - (intOf i).toNat)
     case atStart => exact ⟨0, Nat.zero_le _, rfl, GrowR.nil _, HB3.out⟩
     case round =>
      obtain ⟨k, hk, rfl, hG, hB5⟩ := hrel
      have HG := hid hG
      have HB5 := hid hB5
      clear hG hB5
      by_cases hlt : k < l.length
      ·have hlp : 0 < l.length := by omega
       have hidx : (k + tn) % l.length < l.length := Nat.mod_lt _ hlp
       obtain ⟨b, o, rfl, hbb, c0, c1⟩ := PlsAt.cells L0.out hidx
       have HTM := hid (turnL_more l tn k)
       have hge : l.getD ((k + tn) % l.length) ⟨0, 0⟩ = l[(k + tn) % l.length] := by simp [List.getD, List.getElem?_eq_getElem hidx]
       rw [hge] at HTM
       have m1 : ((k : Int) + (tn : Int)).tmod (l.length : Int) = (((k + tn) % l.length : Nat) : Int) := by rw [← Int.natCast_add]; rfl
       have m2 : ((k : Int) + (tn : Int)) % (l.length : Int) = (((k + tn) % l.length : Nat) : Int) := by rw [← Int.natCast_add]; rfl
       clear hge
       generalize l[(k + tn) % l.length] = z at *
       generalize (k + tn) % l.length = e at *
       obtain ⟨z0, z1⟩ := z
       simp only at c0 c1
       have e0 := kcell_call c0 hbb HB5.out
       have e1 := kcell_call c1 hbb HB5.out
       clear c0 c1 hbb
       have hw : IntKind.i64.wrap ((k : Int) + 1) = (k : Int) + 1 := IntWalk.i64_in _ (by omega)
       have hw2 : IntKind.i64.wrap ((k : Int) + (tn : Int)) = (k : Int) + (tn : Int) := IntWalk.i64_in _ (by omega)
       have hw3 : IntKind.i64.wrap (tn : Int) = (tn : Int) := IntWalk.i64_in _ (by omega)
       have hz : ((l.length : Int) == 0) = false := by rw [beq_eq_false_iff_ne]; omega
       obtain ⟨v3, W3, hr3, hg3, hb3⟩ := HG.out.one Try.underlying22 key_info rfl (by decide) (by decide) plC_len plC_one ⟨z0, z1⟩ (by rw [turnL_len]; omega) HB5.out.size
       have HR3 := hid (show (Builtin.append_ #[22, 22] 22 #[_, .slice (some ⟨wr.heap.size, 0, none⟩) 1 1]).run Try.prog (wr.alloc (.cells #[.int .i64 z0, .int .i64 z1] 24)) = .ok v3 W3 by simpa [plC] using hr3)
       have HG3 := hid hg3
       have HB3 := hid hb3
       clear hr3 hg3 hb3
       go_wp2_with (at_builtin; refine append_step1 rfl (.tmp 126) (.tmp 137) 22 rfl _ _ v3 W3 rfl rfl HR3.out ?_)
       go_wp2_with fail
       go_roundw
       case rel => exact ⟨k + 1, by omega, by go_num, by rw [HTM.out]; exact HG3.out, HG.out.below HB5.out HB3.out (Nat.le_refl _)⟩
       case measure => simp [intOf]; omega
      ·have hke : k = l.length := by omega
       subst hke
       obtain ⟨ta, tc, rfl, hO⟩ := HG.out.own plC_len
       have B_70 := hid (bl BV.out HB5.out)
       have SR_70 := hid (RowAt.call S0.out HB5.out)
       have TR_70 := hid hO.row
       have HTL := hid (turnL_len l tn l.length)
       clear hO HG HB5
       go_wp2_with fail
       refine (ksort_any sb sc s _ SR_70.out (fun q hq => HI.out q ((HS.out.mem q).1 hq)) (by have := HL.out; omega)).mono ?_
       rintro e u1 ⟨b2, c2, s2, rfl, hs2, hO2, b1⟩
       have B_71 := hid (bl B_70.out b1)
       have SR_71 := hid (SR_70.out.call b1)
       have TR_71 := hid (TR_70.out.call b1)
       clear b1 B_70 SR_70 TR_70
       obtain rfl : s2 = s := HS.out.again hs2
       have UR_71 := hid hO2.row
       clear hO2 hs2
       go_wp2_with fail
       refine (ksame_any _ _ _ _ s2 s2 _ UR_71.out SR_71.out).mono ?_
       rintro e u2 ⟨rfl, b2⟩
       rw [decide_eq_true rfl]
       have B_72 := hid (bl B_71.out b2)
       have SR_72 := hid (SR_71.out.call b2)
       have TR_72 := hid (TR_71.out.call b2)
       have UR_72 := hid (UR_71.out.call b2)
       clear b2 B_71 SR_71 TR_71 UR_71
       go_wp2_with fail
       refine (ksort_any ta tc (turnL l tn l.length) _ TR_72.out (fun q hq => HI.out q (turnL_sub (Nat.le_refl _) hq)) (by have := HL.out; have := HTL.out; omega)).mono ?_
       rintro e u3 ⟨b3, c3, s3, rfl, hs3, hO3, b3⟩
       have B_73 := hid (bl B_72.out b3)
       have SR_73 := hid (SR_72.out.call b3)
       have TR_73 := hid (TR_72.out.call b3)
       have UR_73 := hid (UR_72.out.call b3)
       clear b3 B_72 SR_72 TR_72 UR_72
       obtain rfl : s2 = s3 := HS.out.like hs3 (fun q => (turnL_all q).symm)
       have XR_73 := hid hO3.row
       clear hO3 hs3
       go_wp2_with fail
       refine (ksame_any _ _ _ _ s2 s2 _ XR_73.out SR_73.out).mono ?_
       rintro e u4 ⟨rfl, b4⟩
       rw [decide_eq_true rfl]
       have B_74 := hid (bl B_73.out b4)
       have SR_74 := hid (SR_73.out.call b4)
       have TR_74 := hid (TR_73.out.call b4)
       have UR_74 := hid (UR_73.out.call b4)
       have XR_74 := hid (XR_73.out.call b4)
       clear b4 B_73 SR_73 TR_73 UR_73 XR_73
       go_wp2_with fail
       go_ret
       exact ⟨rfl, B_74.out⟩
theorem walk_keysOrder (d : Ds) (dp : Dp) (p : Option Addr) (cap : Nat) (l : List Pl) (a : Int) (w : World) (ha : (Lit.int .u8 a).wf = true) (hd : DescAt w dp d) (h : RowAt 2 plC w p l) (hi : ∀ k ∈ l, InK k) : Calls Try.prog 5 #[.agg #[.slice dp.ex d.exits.length dp.exc, .slice dp.pl d.players.length dp.plc, .slice dp.co d.coins.length dp.coc, .slice dp.it d.items.length dp.itc, .slice dp.bo d.boxes.length dp.boc, .int .i64 d.room, .int .i64 d.player, .int .i64 d.box], .slice p l.length cap, .int .u8 a] w fun e w' => e = .returned (.bool true) ∧ Below w.heap.size w w' := by
 have h9 := wf_u8 ha
 obtain ⟨tn, rfl⟩ : ∃ m : Nat, a = m := ⟨a.toNat, by omega⟩
 cases hfw : fewB ⟨d, [], [], []⟩
 ·exact keysOrder_few d dp p cap l tn (by omega) w h hi hfw
 cases k0 : decide ((40 : Int) < (l.length : Int))
 ·exact keysOrder_go d dp p cap l tn (by omega) w h hi hfw k0
 ·exact keysOrder_long d dp p cap l tn (by omega) w h hi hfw k0
theorem lifted_keysOrder (os : Os) (started : os.Started) (H : Type) (enc : TypeId × Value → H) :
 ReturnsInHanded {} Try.checked os 5 .any (Rows.keysOrderSpec.pre6 enc Try.prog Try.f5 Rows.keysOrderRow.domain false) (Rows.keysOrderSpec.post enc Try.prog Try.f5 false true false false) := by
 refine returnsInHanded_of_change (C := Try.checked) (by kernel_rfl) started (by kernel_rfl) Try.func5
  (ChangeSpec.witness6 (enc := enc) (C := Try.checked) false ⟨#[], #[.agg #[.slice none 0 0, .slice none 0 0, .slice none 0 0, .slice none 0 0, .slice none 0 0, .int .i64 0, .int .i64 0, .int .i64 0], .slice none 0 0, .int .u8 0], []⟩ 8 (by kernel_rfl) (by kernel_rfl) (by kernel_rfl) (by kernel_rfl)) ?_
 intro W base args ds gs before hval0 hW hcnd _
 have hval : ∀ (j : Nat) t v, Try.f5.params[j]? = some t → args[j]? = some v → Value.okWide Try.prog W .any base t v := hval0
 have hW' := hW
 obtain ⟨p, q, hA0, hV, rfl, hfz, hnd⟩ := hW
 have hA : DataW.TrodAll enc Try.prog W 0 (fun _ => true) true Try.f5.params.toList args.toList ds p := hA0
 rw [Try.params5] at hA hval
 obtain ⟨v0, vs0, d0, ds0, p0, q0, hargs, rfl, rfl, h0, r0⟩ := trodAll_cons hA
 obtain ⟨v1, vs1, d1, ds1, p1, q1, rfl, rfl, rfl, h1, r1⟩ := trodAll_cons r0
 obtain ⟨v2, vs2, d2, ds2, p2, q2, rfl, rfl, rfl, h2, r2⟩ := trodAll_cons r1
 obtain ⟨rfl, rfl, rfl⟩ := trodAll_nil r2
 obtain rfl : args = #[v0, v1, v2] := by cases args; simp_all
 obtain ⟨rfl, rfl⟩ := trodVars_none hV
 obtain ⟨wx0, wp0, rfl, m0⟩ := read_desc (hval 0 35 v0 rfl rfl) h0
 obtain ⟨a1, cap1, l1, rfl, m1, ik1⟩ := read_keys (hval 1 22 v1 rfl rfl) h1
 obtain ⟨a2, rfl, rfl, rfl, w2⟩ := open_int Try.underlying5 (hval 2 5 v2 rfl rfl) h2
 clear hA0 hval0
 simp only [List.append_nil] at hW'
 refine (walk_keysOrder wx0 wp0 a1 cap1 l1 a2 W w2 m0 m1 ik1).mono fun e W' ⟨he, hg⟩ => ?_
 subst he
 exact ⟨_, rfl, law_post (by kernel_rfl) rfl (by rw [Try.params5]; decide +kernel) rfl rfl Try.underlying4 hW' hg⟩

/-- ████ THE STATEMENT ████ -/
theorem proved_keysOrder : Rows.KeysOrderSaid :=
 OpenClaim.holds_of_wide 5 Try.f5 rfl rfl rfl rfl rfl rfl rfl ⟨rfl, rfl, rfl, rfl, rfl⟩ rfl rfl rfl rfl rfl (by kernel_rfl) Try.func5 (by kernel_rfl)
  (of_decide_eq_true (by kernel_rfl)) (by unfold Func.isWrapper; first | (rw [if_pos (by decide +kernel)]; kernel_rfl) | (rw [if_neg (by decide +kernel)]; exact ⟨rfl, rfl⟩))
  (fun os started H enc _ => lifted_keysOrder os started H enc)
#print axioms proved_keysOrder
end Go.Proofs.Ytgmkcddgkgcbbaa
