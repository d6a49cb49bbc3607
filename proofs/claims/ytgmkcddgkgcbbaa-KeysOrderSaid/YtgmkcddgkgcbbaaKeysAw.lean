/- keys: what the laws ask first of all. -/
import Derived.Test.YtgmkcddgkgcbbaaKeysD
namespace Go.Proofs.Ytgmkcddgkgcbbaa
open Go.ChangeShapes Go.WideShapes Go.ChangeAt Go.RowKit
open Lib (hid)
set_option linter.unusedVariables false
open Go.RowKit Go
theorem gen_calls14 {P : Program} {f : FuncId} {args : Array Value} {W : World} {R : Ending → World → Prop} (F : World → Prop) (h : F W) (k : ∀ V, F V → Calls P f args V R) : Calls P f args W R := k W h
theorem exits_info14 : (Try.prog.info? 94).map (fun i => (i.zero, i.size, i.bytes)) = some (some (.agg #[.int .i64 0, .int .i64 0, .int .i64 0, .int .i64 0]), 4, 32) := by kernel_rfl
theorem make_exits14 (W : World) : (Instr.makeSlice 31 (.int .i64 2) (.int .i64 2)).run Try.prog W = .ok (.slice (some ⟨W.heap.size, 0, none⟩) 2 2) (W.alloc (.cells #[.int .i64 0, .int .i64 0, .int .i64 0, .int .i64 0, .int .i64 0, .int .i64 0, .int .i64 0, .int .i64 0] 94)) := by
 obtain ⟨i0, hi0, hz0, hz1, hz2⟩ := info_parts exits_info14
 have hr := run_make (P := Try.prog) W 31 94 i0 (.agg #[.int .i64 0, .int .i64 0, .int .i64 0, .int .i64 0]) Try.underlying31 hi0 hz0 .i64 .i64 2 2 (by omega) (by omega) (by rw [hz2]; omega) (by omega)
 rw [hz1] at hr
 exact hr.trans (by kernel_rfl)
theorem at2_any (n : Nat) (W : World) : Calls Try.prog 16 #[.agg #[.slice (some ⟨n, 0, none⟩) 2 2, .slice (some ⟨n + 1, 0, none⟩) 1 1, .slice none 0 0, .slice none 0 0, .slice none 0 0, .int .i64 0, .int .i64 0, .int .i64 0], .int .i64 2] W fun e w' => e = .returned (.tuple #[.agg #[.int .i64 1, .int .i64 0], .bool true]) ∧ Below W.heap.size W w' := by
 have h := kat_any (⟨[⟨0, 0, 0, 0⟩, ⟨0, 0, 0, 0⟩], [0], [], [], [], 0, 0, 0⟩ : Ds) (⟨some ⟨n, 0, none⟩, 2, some ⟨n + 1, 0, none⟩, 1, none, 0, none, 0, none, 0⟩ : Dp) 2 W (by decide) (by decide) (by omega)
 rw [show keyAt ((⟨[⟨0, 0, 0, 0⟩, ⟨0, 0, 0, 0⟩], [0], [], [], [], 0, 0, 0⟩ : Ds)).exits.length ((⟨[⟨0, 0, 0, 0⟩, ⟨0, 0, 0, 0⟩], [0], [], [], [], 0, 0, 0⟩ : Ds)).players.length 2 = some ⟨1, 0⟩ by decide] at h
 exact h
theorem at3_any (n : Nat) (W : World) : Calls Try.prog 16 #[.agg #[.slice (some ⟨n, 0, none⟩) 2 2, .slice (some ⟨n + 1, 0, none⟩) 1 1, .slice none 0 0, .slice none 0 0, .slice none 0 0, .int .i64 0, .int .i64 0, .int .i64 0], .int .i64 3] W fun e w' => e = .returned (.tuple #[.agg #[.int .i64 0, .int .i64 0], .bool false]) ∧ Below W.heap.size W w' := by
 have h := kat_any (⟨[⟨0, 0, 0, 0⟩, ⟨0, 0, 0, 0⟩], [0], [], [], [], 0, 0, 0⟩ : Ds) (⟨some ⟨n, 0, none⟩, 2, some ⟨n + 1, 0, none⟩, 1, none, 0, none, 0, none, 0⟩ : Dp) 3 W (by decide) (by decide) (by omega)
 rw [show keyAt ((⟨[⟨0, 0, 0, 0⟩, ⟨0, 0, 0, 0⟩], [0], [], [], [], 0, 0, 0⟩ : Ds)).exits.length ((⟨[⟨0, 0, 0, 0⟩, ⟨0, 0, 0, 0⟩], [0], [], [], [], 0, 0, 0⟩ : Ds)).players.length 3 = none by decide] at h
 exact h
theorem pl2_any (n : Nat) (W : World) : Calls Try.prog 15 #[.agg #[.slice (some ⟨n, 0, none⟩) 2 2, .slice (some ⟨n + 1, 0, none⟩) 1 1, .slice none 0 0, .slice none 0 0, .slice none 0 0, .int .i64 0, .int .i64 0, .int .i64 0], .agg #[.int .i64 1, .int .i64 0]] W fun e w' => e = .returned (.int .i64 2) ∧ Below W.heap.size W w' := by
 have h := kplace_any (⟨[⟨0, 0, 0, 0⟩, ⟨0, 0, 0, 0⟩], [0], [], [], [], 0, 0, 0⟩ : Ds) (⟨some ⟨n, 0, none⟩, 2, some ⟨n + 1, 0, none⟩, 1, none, 0, none, 0, none, 0⟩ : Dp) ⟨1, 0⟩ W (by decide) (by decide)
 rw [show placeK ((⟨[⟨0, 0, 0, 0⟩, ⟨0, 0, 0, 0⟩], [0], [], [], [], 0, 0, 0⟩ : Ds)).exits.length ((⟨[⟨0, 0, 0, 0⟩, ⟨0, 0, 0, 0⟩], [0], [], [], [], 0, 0, 0⟩ : Ds)).players.length ⟨1, 0⟩ = 2 by decide] at h
 exact h
theorem pl1_any (n : Nat) (W : World) : Calls Try.prog 15 #[.agg #[.slice (some ⟨n, 0, none⟩) 2 2, .slice (some ⟨n + 1, 0, none⟩) 1 1, .slice none 0 0, .slice none 0 0, .slice none 0 0, .int .i64 0, .int .i64 0, .int .i64 0], .agg #[.int .i64 0, .int .i64 2]] W fun e w' => e = .returned (.int .i64 (-1)) ∧ Below W.heap.size W w' := by
 have h := kplace_any (⟨[⟨0, 0, 0, 0⟩, ⟨0, 0, 0, 0⟩], [0], [], [], [], 0, 0, 0⟩ : Ds) (⟨some ⟨n, 0, none⟩, 2, some ⟨n + 1, 0, none⟩, 1, none, 0, none, 0, none, 0⟩ : Dp) ⟨0, 2⟩ W (by decide) (by decide)
 rw [show placeK ((⟨[⟨0, 0, 0, 0⟩, ⟨0, 0, 0, 0⟩], [0], [], [], [], 0, 0, 0⟩ : Ds)).exits.length ((⟨[⟨0, 0, 0, 0⟩, ⟨0, 0, 0, 0⟩], [0], [], [], [], 0, 0, 0⟩ : Ds)).players.length ⟨0, 2⟩ = -1 by decide] at h
 exact h
theorem many3_any (n : Nat) (W : World) : Calls Try.prog 18 #[.agg #[.slice (some ⟨n, 0, none⟩) 2 2, .slice (some ⟨n + 1, 0, none⟩) 1 1, .slice none 0 0, .slice none 0 0, .slice none 0 0, .int .i64 0, .int .i64 0, .int .i64 0]] W fun e w' => e = .returned (.int .i64 3) ∧ Below W.heap.size W w' := by
 have h := kmany_any (⟨[⟨0, 0, 0, 0⟩, ⟨0, 0, 0, 0⟩], [0], [], [], [], 0, 0, 0⟩ : Ds) (⟨some ⟨n, 0, none⟩, 2, some ⟨n + 1, 0, none⟩, 1, none, 0, none, 0, none, 0⟩ : Dp) W (by decide) (by decide)
 exact h
theorem pls14 {W : World} {g : Nat} {cs : Array Value} {l : List Pl} (h : Blk W g 24 cs) (hl : l.length ≤ maxLen) (hc : ∀ i (hi : i < l.length) j, j < 2 → cs[i * 2 + j]? = (plC l[i])[j]?) : PlsAt W (some ⟨g, 0, none⟩) l :=
 ⟨hl, .inr ⟨g, 0, rfl, h.lt, fun i hi j hj => by rw [Nat.zero_add, h.cell]; exact hc i hi j hj⟩⟩
theorem pls14c {W : World} {g : Nat} {cs : Array Value} (l : List Pl) (hc : ∀ i, W.cell? ⟨g, i, none⟩ = (cs[i]? : Option Value)) (hlt : g < W.heap.size) (hl : l.length ≤ maxLen) (hcs : cs = (l.flatMap plC).toArray) : PlsAt W (some ⟨g, 0, none⟩) l :=
 ⟨hl, .inr ⟨g, 0, rfl, hlt, fun i hi j hj => by rw [Nat.zero_add, hc, hcs]; simpa using flat_get plC_len l i hi j hj⟩⟩
theorem sort14 {s : List Pl} (h : IsSort [⟨1, 0⟩, ⟨0, 5⟩, ⟨1, 0⟩, ⟨0, 0⟩] s) : s = [⟨0, 0⟩, ⟨0, 5⟩, ⟨1, 0⟩] :=
 h.same ⟨by simp [lessK], fun k => by simp only [List.mem_cons, List.not_mem_nil, or_false]; grind⟩
set_option maxRecDepth 100000 in
set_option maxHeartbeats 1000000 in
theorem awake14_any (w : World) : Calls Try.prog 8 #[] w fun e w' => e = .returned (.bool true) ∧ Below w.heap.size w w' := by
 have hmk := make_exits14
 have B_0 := hid (show Below w.heap.size w (((w.alloc (.cells #[.int .i64 0, .int .i64 0, .int .i64 0, .int .i64 0, .int .i64 0, .int .i64 0, .int .i64 0, .int .i64 0] 94)).alloc (.cells #[.int .i64 0] 3)).alloc (.cells #[.slice (some ⟨w.heap.size, 0, none⟩) 2 2, .slice (some ⟨w.heap.size + 1, 0, none⟩) 1 1, .slice none 0 0, .slice none 0 0, .slice none 0 0, .int .i64 0, .int .i64 0, .int .i64 0] 35)) from (((Below.refl _ _).alloc (Nat.le_refl _) _).alloc (by simp) _).alloc (by simp; omega) _)
 have H_0 := hid (show Holds w (w.heap.size + 1 + 1) #[.slice (some ⟨w.heap.size, 0, none⟩) 2 2, .slice (some ⟨w.heap.size + 1, 0, none⟩) 1 1, .slice none 0 0, .slice none 0 0, .slice none 0 0, .int .i64 0, .int .i64 0, .int .i64 0] (((w.alloc (.cells #[.int .i64 0, .int .i64 0, .int .i64 0, .int .i64 0, .int .i64 0, .int .i64 0, .int .i64 0, .int .i64 0] 94)).alloc (.cells #[.int .i64 0] 3)).alloc (.cells #[.slice (some ⟨w.heap.size, 0, none⟩) 2 2, .slice (some ⟨w.heap.size + 1, 0, none⟩) 1 1, .slice none 0 0, .slice none 0 0, .slice none 0 0, .int .i64 0, .int .i64 0, .int .i64 0] 35)) from ⟨B_0.out, (Blk.newn _ _ _ (by simp)).lt, (Blk.newn _ _ _ (by simp)).cell⟩)
 go_enter Try.func8, Try.ntmps8
 go_wp2_with fail
 clear hmk
 generalize ((w.alloc (.cells #[.int .i64 0, .int .i64 0, .int .i64 0, .int .i64 0, .int .i64 0, .int .i64 0, .int .i64 0, .int .i64 0] 94)).alloc (.cells #[.int .i64 0] 3)).alloc (.cells #[.slice (some ⟨w.heap.size, 0, none⟩) 2 2, .slice (some ⟨w.heap.size + 1, 0, none⟩) 1 1, .slice none 0 0, .slice none 0 0, .slice none 0 0, .int .i64 0, .int .i64 0, .int .i64 0] 35) = V0 at *
 have hcH := H_0.out.2.2
 have hlH := H_0.out.2.1
 refine (at2_any _ _).mono ?_
 rintro e u1 ⟨rfl, b1⟩
 clear hcH hlH
 have B_1 := hid (bl B_0.out b1)
 have H_1 := hid (H_0.out.call b1)
 clear b1 B_0 H_0
 have hcH := H_1.out.2.2
 have hlH := H_1.out.2.1
 go_wp2_with fail
 clear hcH hlH
 have s2 : (u1.alloc (.cells #[.int .i64 1, .int .i64 0] 24)).heap.size = u1.heap.size + 1 := by simp
 have B_2 := hid (B_1.out.alloc B_1.out.size (.cells #[.int .i64 1, .int .i64 0] 24))
 have H_2 := hid (H_1.out.alloc (.cells #[.int .i64 1, .int .i64 0] 24))
 have K2_2 := hid (Holds.newb (w := w) (A := #[.int .i64 1, .int .i64 0]) (t := 24) (n := u1.heap.size) B_1.out rfl)
 clear B_1 H_1
 generalize u1.alloc (.cells #[.int .i64 1, .int .i64 0] 24) = V2 at *
 have hcH := H_2.out.2.2
 have hlH := H_2.out.2.1
 have hcK2 := K2_2.out.2.2
 have hlK2 := K2_2.out.2.1
 refine (at3_any _ _).mono ?_
 rintro e u3 ⟨rfl, b3⟩
 clear hcH hlH hcK2 hlK2
 have B_3 := hid (bl B_2.out b3)
 have H_3 := hid (H_2.out.call b3)
 have K2_3 := hid (K2_2.out.call b3)
 clear b3 B_2 H_2 K2_2
 have hcH := H_3.out.2.2
 have hlH := H_3.out.2.1
 have hcK2 := K2_3.out.2.2
 have hlK2 := K2_3.out.2.1
 go_wp2_with fail
 clear hcH hlH hcK2 hlK2
 have s4 : (u3.alloc (.cells #[.int .i64 0, .int .i64 0] 24)).heap.size = u3.heap.size + 1 := by simp
 have B_4 := hid (B_3.out.alloc B_3.out.size (.cells #[.int .i64 0, .int .i64 0] 24))
 have H_4 := hid (H_3.out.alloc (.cells #[.int .i64 0, .int .i64 0] 24))
 have K2_4 := hid (K2_3.out.alloc (.cells #[.int .i64 0, .int .i64 0] 24))
 clear B_3 H_3 K2_3
 generalize u3.alloc (.cells #[.int .i64 0, .int .i64 0] 24) = V4 at *
 have s5 : (V4.alloc (.cells #[.int .i64 1, .int .i64 0, .int .i64 0, .int .i64 5, .int .i64 1, .int .i64 0, .int .i64 0, .int .i64 0] 24)).heap.size = V4.heap.size + 1 := by simp
 have B_5 := hid (B_4.out.alloc B_4.out.size (.cells #[.int .i64 1, .int .i64 0, .int .i64 0, .int .i64 5, .int .i64 1, .int .i64 0, .int .i64 0, .int .i64 0] 24))
 have H_5 := hid (H_4.out.alloc (.cells #[.int .i64 1, .int .i64 0, .int .i64 0, .int .i64 5, .int .i64 1, .int .i64 0, .int .i64 0, .int .i64 0] 24))
 have K2_5 := hid (K2_4.out.alloc (.cells #[.int .i64 1, .int .i64 0, .int .i64 0, .int .i64 5, .int .i64 1, .int .i64 0, .int .i64 0, .int .i64 0] 24))
 have SL_5 := hid (Holds.newb (w := w) (A := #[.int .i64 1, .int .i64 0, .int .i64 0, .int .i64 5, .int .i64 1, .int .i64 0, .int .i64 0, .int .i64 0]) (t := 24) (n := u3.heap.size + 1) B_4.out s4)
 clear B_4 H_4 K2_4
 generalize V4.alloc (.cells #[.int .i64 1, .int .i64 0, .int .i64 0, .int .i64 5, .int .i64 1, .int .i64 0, .int .i64 0, .int .i64 0] 24) = V5 at *
 refine (ksort_any (some ⟨u3.heap.size + 1, 0, none⟩) 4 [⟨1, 0⟩, ⟨0, 5⟩, ⟨1, 0⟩, ⟨0, 0⟩] _ (pls14c [⟨1, 0⟩, ⟨0, 5⟩, ⟨1, 0⟩, ⟨0, 0⟩] SL_5.out.2.2 SL_5.out.2.1 (by simp [maxLen]) rfl) (by intro k hk; simp only [List.mem_cons, List.not_mem_nil, or_false] at hk; rcases hk with rfl | rfl | rfl | rfl <;> exact ⟨by decide, by decide⟩) (by decide)).mono ?_
 rintro e u6 ⟨sb, sc, ss, rfl, hss, hO, b6⟩
 have B_6 := hid (bl B_5.out b6)
 have H_6 := hid (H_5.out.call b6)
 have K2_6 := hid (K2_5.out.call b6)
 have SL_6 := hid (SL_5.out.call b6)
 clear b6 B_5 H_5 K2_5 SL_5
 have hcH := H_6.out.2.2
 have hlH := H_6.out.2.1
 have hcK2 := K2_6.out.2.2
 have hlK2 := K2_6.out.2.1
 have hcSL := SL_6.out.2.2
 have hlSL := SL_6.out.2.1
 obtain rfl := sort14 hss
 have S_6 := hid hO.row
 clear hss hO
 have hkk := run_keq 1 0 1 0
 simp only [decide_true] at hkk
 go_wp2_with fail
 refine (pl2_any _ _).mono ?_
 rintro e u7 ⟨rfl, b7⟩
 clear hcH hlH hcK2 hlK2 hcSL hlSL
 have B_7 := hid (bl B_6.out b7)
 have H_7 := hid (H_6.out.call b7)
 have K2_7 := hid (K2_6.out.call b7)
 have SL_7 := hid (SL_6.out.call b7)
 have S_7 := hid (S_6.out.call b7)
 clear b7 B_6 H_6 K2_6 SL_6 S_6
 have hcH := H_7.out.2.2
 have hlH := H_7.out.2.1
 have hcK2 := K2_7.out.2.2
 have hlK2 := K2_7.out.2.1
 have hcSL := SL_7.out.2.2
 have hlSL := SL_7.out.2.1
 go_wp2_with fail
 refine (pl1_any _ _).mono ?_
 rintro e u8 ⟨rfl, b8⟩
 clear hcH hlH hcK2 hlK2 hcSL hlSL
 have B_8 := hid (bl B_7.out b8)
 have H_8 := hid (H_7.out.call b8)
 have K2_8 := hid (K2_7.out.call b8)
 have SL_8 := hid (SL_7.out.call b8)
 have S_8 := hid (S_7.out.call b8)
 clear b8 B_7 H_7 K2_7 SL_7 S_7
 have hcH := H_8.out.2.2
 have hlH := H_8.out.2.1
 have hcK2 := K2_8.out.2.2
 have hlK2 := K2_8.out.2.1
 have hcSL := SL_8.out.2.2
 have hlSL := SL_8.out.2.1
 go_wp2_with fail
 refine (many3_any _ _).mono ?_
 rintro e u9 ⟨rfl, b9⟩
 clear hcH hlH hcK2 hlK2 hcSL hlSL
 have B_9 := hid (bl B_8.out b9)
 have H_9 := hid (H_8.out.call b9)
 have K2_9 := hid (K2_8.out.call b9)
 have SL_9 := hid (SL_8.out.call b9)
 have S_9 := hid (S_8.out.call b9)
 clear b9 B_8 H_8 K2_8 SL_8 S_8
 have hcH := H_9.out.2.2
 have hlH := H_9.out.2.1
 have hcK2 := K2_9.out.2.2
 have hlK2 := K2_9.out.2.1
 have hcSL := SL_9.out.2.2
 have hlSL := SL_9.out.2.1
 go_wp2_with fail
 clear hcH hlH hcK2 hlK2 hcSL hlSL
 have s10 : (u9.alloc (.cells #[.int .i64 0, .int .i64 0, .int .i64 0, .int .i64 5, .int .i64 1, .int .i64 0] 24)).heap.size = u9.heap.size + 1 := by simp
 have B_10 := hid (B_9.out.alloc B_9.out.size (.cells #[.int .i64 0, .int .i64 0, .int .i64 0, .int .i64 5, .int .i64 1, .int .i64 0] 24))
 have H_10 := hid (H_9.out.alloc (.cells #[.int .i64 0, .int .i64 0, .int .i64 0, .int .i64 5, .int .i64 1, .int .i64 0] 24))
 have K2_10 := hid (K2_9.out.alloc (.cells #[.int .i64 0, .int .i64 0, .int .i64 0, .int .i64 5, .int .i64 1, .int .i64 0] 24))
 have SL_10 := hid (SL_9.out.alloc (.cells #[.int .i64 0, .int .i64 0, .int .i64 0, .int .i64 5, .int .i64 1, .int .i64 0] 24))
 have S_10 := hid (S_9.out.call ((Below.refl _ _).alloc (Nat.le_refl _) (.cells #[.int .i64 0, .int .i64 0, .int .i64 0, .int .i64 5, .int .i64 1, .int .i64 0] 24)))
 have SM_10 := hid (Holds.newb (w := w) (A := #[.int .i64 0, .int .i64 0, .int .i64 0, .int .i64 5, .int .i64 1, .int .i64 0]) (t := 24) (n := u9.heap.size) B_9.out rfl)
 clear B_9 H_9 K2_9 SL_9 S_9
 generalize u9.alloc (.cells #[.int .i64 0, .int .i64 0, .int .i64 0, .int .i64 5, .int .i64 1, .int .i64 0] 24) = V10 at *
 have hcH := H_10.out.2.2
 have hlH := H_10.out.2.1
 have hcK2 := K2_10.out.2.2
 have hlK2 := K2_10.out.2.1
 have hcSL := SL_10.out.2.2
 have hlSL := SL_10.out.2.1
 have hcSM := SM_10.out.2.2
 have hlSM := SM_10.out.2.1
 refine (ksame_any sb (some ⟨u9.heap.size, 0, none⟩) sc 3 [⟨0, 0⟩, ⟨0, 5⟩, ⟨1, 0⟩] [⟨0, 0⟩, ⟨0, 5⟩, ⟨1, 0⟩] _ S_10.out (pls14c [⟨0, 0⟩, ⟨0, 5⟩, ⟨1, 0⟩] SM_10.out.2.2 SM_10.out.2.1 (by simp [maxLen]) rfl)).mono ?_
 rintro e u11 ⟨rfl, b11⟩
 rw [show decide (([⟨0, 0⟩, ⟨0, 5⟩, ⟨1, 0⟩] : List Pl) = [⟨0, 0⟩, ⟨0, 5⟩, ⟨1, 0⟩]) = true from decide_eq_true rfl]
 clear hcH hlH hcK2 hlK2 hcSL hlSL hcSM hlSM
 have B_11 := hid (bl B_10.out b11)
 have H_11 := hid (H_10.out.call b11)
 have K2_11 := hid (K2_10.out.call b11)
 have SL_11 := hid (SL_10.out.call b11)
 have SM_11 := hid (SM_10.out.call b11)
 have S_11 := hid (S_10.out.call b11)
 clear b11 B_10 H_10 K2_10 SL_10 SM_10 S_10
 have hcH := H_11.out.2.2
 have hlH := H_11.out.2.1
 have hcK2 := K2_11.out.2.2
 have hlK2 := K2_11.out.2.1
 have hcSL := SL_11.out.2.2
 have hlSL := SL_11.out.2.1
 have hcSM := SM_11.out.2.2
 have hlSM := SM_11.out.2.1
 go_wp2_with fail
 refine (kless_any ⟨0, 9⟩ ⟨1, 0⟩ _).mono ?_
 rintro e u12 ⟨rfl, b12⟩
 rw [show lessK ⟨0, 9⟩ ⟨1, 0⟩ = true by decide]
 clear hcH hlH hcK2 hlK2 hcSL hlSL hcSM hlSM
 have B_12 := hid (bl B_11.out b12)
 have H_12 := hid (H_11.out.call b12)
 have K2_12 := hid (K2_11.out.call b12)
 have SL_12 := hid (SL_11.out.call b12)
 have SM_12 := hid (SM_11.out.call b12)
 have S_12 := hid (S_11.out.call b12)
 clear b12 B_11 H_11 K2_11 SL_11 SM_11 S_11
 have hcH := H_12.out.2.2
 have hlH := H_12.out.2.1
 have hcK2 := K2_12.out.2.2
 have hlK2 := K2_12.out.2.1
 have hcSL := SL_12.out.2.2
 have hlSL := SL_12.out.2.1
 have hcSM := SM_12.out.2.2
 have hlSM := SM_12.out.2.1
 go_wp2_with fail
 refine (kless_any ⟨0, 0⟩ ⟨0, 0⟩ _).mono ?_
 rintro e u13 ⟨rfl, b13⟩
 rw [show lessK ⟨0, 0⟩ ⟨0, 0⟩ = false by decide]
 clear hcH hlH hcK2 hlK2 hcSL hlSL hcSM hlSM
 have B_13 := hid (bl B_12.out b13)
 have H_13 := hid (H_12.out.call b13)
 have K2_13 := hid (K2_12.out.call b13)
 have SL_13 := hid (SL_12.out.call b13)
 have SM_13 := hid (SM_12.out.call b13)
 have S_13 := hid (S_12.out.call b13)
 clear b13 B_12 H_12 K2_12 SL_12 SM_12 S_12
 have hcH := H_13.out.2.2
 have hlH := H_13.out.2.1
 have hcK2 := K2_13.out.2.2
 have hlK2 := K2_13.out.2.1
 have hcSL := SL_13.out.2.2
 have hlSL := SL_13.out.2.1
 have hcSM := SM_13.out.2.2
 have hlSM := SM_13.out.2.1
 go_wp2_with fail
 go_ret
 exact ⟨rfl, B_13.out⟩
end Go.Proofs.Ytgmkcddgkgcbbaa
