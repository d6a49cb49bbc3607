/- What the laws of sight begin with: answers that the document fixes; whether a world fits. -/
import Derived.Test.YtojfichbnnfjpaaRows
import Derived.Test.YtojfichbnnfjpaaKit
import Derived.Test.YtojfichbnnfjpaaGMem
import Derived.Test.YtojfichbnnfjpaaCoin
import Derived.Test.YtojfichbnnfjpaaGWorld
import Derived.Test.YtojfichbnnfjpaaDescMay
import Derived.Test.YtojfichbnnfjpaaGDescN
import Derived.Test.YtojfichbnnfjpaaGRight
import Derived.Test.YtojfichbnnfjpaaGCopy
import Derived.Test.YtojfichbnnfjpaaGRefD
import Derived.Test.YtojfichbnnfjpaaGAs
import Derived.Test.YtojfichbnnfjpaaRefRight
import Derived.Test.YtojfichbnnfjpaaGTreeL
import Derived.Test.YtojfichbnnfjpaaGNew
import Derived.Test.YtojfichbnnfjpaaRepMath
import Derived.Test.YtojfichbnnfjpaaRepSame
import Derived.Test.YtojfichbnnfjpaaSightMath
import Derived.Test.YtojfichbnnfjpaaSightA
import Derived.Test.YtojfichbnnfjpaaSightB
import Derived.Deep.QuietTactic
import Derived.BigQuiet
import Derived.Deep.RegionHeld3
import Derived.WalkKit
import Derived.ProofKit
import Derived.OpenShut
import Derived.IntWalk
namespace Go.Proofs.Ytojfichbnnfjpaa
open Go.ChangeShapes Go.WideShapes Go.ChangeAt Go.RowKit
set_option linter.unusedVariables false
open Go.RowKit
def aD12 : Ds := ⟨[⟨0, 0, 0, 0⟩, ⟨0, 0, 0, 0⟩], [0, 1, 0], [5, 2, 5], [0, 0, 1], [true, false, false], 4, 2, 1⟩
def aP12 (n : Nat) : Dp := ⟨some ⟨n, 0, none⟩, 2, some ⟨n + 1, 0, none⟩, 3, some ⟨n + 1 + 1, 0, none⟩, 3, some ⟨n + 1 + 1 + 1, 0, none⟩, 3, some ⟨n + 1 + 1 + 1 + 1, 0, none⟩, 3⟩
def aN12 : Wd := newW aD12
def aX12 : Wd := putW (putW aN12 1 ⟨2, 0⟩) 2 ⟨1, 1⟩
theorem aX12_right : rightW aX12 = true := by decide
def aL12 : Rp := ⟨0, 9, 0, [0, 2], [⟨0, 0, 0⟩, ⟨1, 2, 0⟩], 0⟩
def aO12 : Rp := ⟨0, 10, 0, [], [⟨2, 1, 1⟩], 2⟩
theorem aL12_eq : lookR aX12 2 = aL12 := by decide
theorem aO12_eq : haveR aX12 1 = aO12 := by decide
theorem exits_info12 : (Try.prog.info? 49).map (fun i => (i.zero, i.size, i.bytes)) = some (some (.agg #[.int .i64 0, .int .i64 0, .int .i64 0, .int .i64 0]), 4, 32) := by kernel_rfl
theorem make_exits12 (W : World) : (Instr.makeSlice 22 (.int .i64 2) (.int .i64 2)).run Try.prog W = .ok (.slice (some ⟨W.heap.size, 0, none⟩) 2 2) (W.alloc (.cells #[.int .i64 0, .int .i64 0, .int .i64 0, .int .i64 0, .int .i64 0, .int .i64 0, .int .i64 0, .int .i64 0] 49)) := by
  obtain ⟨i0, hi0, hz0, hz1, hz2⟩ := info_parts exits_info12
  have hr := run_make (P := Try.prog) W 22 49 i0 (.agg #[.int .i64 0, .int .i64 0, .int .i64 0, .int .i64 0]) Try.underlying22 hi0 hz0 .i64 .i64 2 2 (by omega) (by omega) (by rw [hz2]; omega) (by omega)
  rw [hz1] at hr
  exact hr.trans (by kernel_rfl)
theorem row12 {α : Type} {k : Nat} {enc : α → List Value} {W : World} {g : Nat} {t : TypeId} {cs : Array Value} {xs : List α} (h : Blk W g t cs) (hl : xs.length ≤ maxLen) (hc : ∀ i (hi : i < xs.length) j, j < k → cs[i * k + j]? = (enc xs[i])[j]?) : RowAt k enc W (some ⟨g, 0, none⟩) xs :=
  ⟨hl, .inr ⟨g, 0, rfl, h.lt, fun i hi j hj => by rw [Nat.zero_add, h.cell]; exact hc i hi j hj⟩⟩
theorem ints12 {W : World} {g : Nat} {cs : Array Value} {l : List Int} (h : Blk W g 3 cs) (hc : cs = (l.map (Value.int .i64)).toArray) (hl : l.length ≤ 16) : IntsAt W (some ⟨g, 0, none⟩) l :=
  h.ints (by unfold maxLen; omega) (fun i hi => by rw [hc]; simp [hi])
theorem sns12 {W : World} {g : Nat} {cs : Array Value} {l : List Sn} (h : Blk W g 45 cs) (hc : cs = (l.flatMap seC).toArray) (hl : l.length ≤ 16) : SnsAt W (some ⟨g, 0, none⟩) l :=
  sns_row (row12 h (by unfold maxLen; omega) (fun i hi j hj => by rw [hc]; simpa using flat_get seC_len l i hi j hj))
theorem aD12_at {W : World} {n : Nat} (h0 : Blk W n 49 #[.int .i64 0, .int .i64 0, .int .i64 0, .int .i64 0, .int .i64 0, .int .i64 0, .int .i64 0, .int .i64 0]) (h1 : Blk W (n + 1) 3 #[.int .i64 0, .int .i64 1, .int .i64 0]) (h2 : Blk W (n + 1 + 1) 3 #[.int .i64 5, .int .i64 2, .int .i64 5])
    (h3 : Blk W (n + 1 + 1 + 1) 3 #[.int .i64 0, .int .i64 0, .int .i64 1]) (h4 : Blk W (n + 1 + 1 + 1 + 1) 4 #[.bool true, .bool false, .bool false]) : DescAt W (aP12 n) aD12 := by
  refine ⟨row12 h0 (by simp [aD12, maxLen]) ?_, ints_row.2 (row12 h1 (by simp [aD12, maxLen]) ?_), ints_row.2 (row12 h2 (by simp [aD12, maxLen]) ?_), ints_row.2 (row12 h3 (by simp [aD12, maxLen]) ?_), row12 h4 (by simp [aD12, maxLen]) ?_⟩
  · intro i hi j hj
    obtain rfl | rfl : i = 0 ∨ i = 1 := by simp [aD12] at hi; omega
    all_goals obtain rfl | rfl | rfl | rfl : j = 0 ∨ j = 1 ∨ j = 2 ∨ j = 3 := by omega
    all_goals rfl
  all_goals
    intro i hi j hj
    obtain rfl : j = 0 := by omega
    obtain rfl | rfl | rfl : i = 0 ∨ i = 1 ∨ i = 2 := by simp [aD12] at hi; omega
    all_goals rfl
theorem aw12_start (w : World) : DescAt (((((w.alloc (.cells #[.int .i64 0, .int .i64 0, .int .i64 0, .int .i64 0, .int .i64 0, .int .i64 0, .int .i64 0, .int .i64 0] 49)).alloc (.cells #[.int .i64 0, .int .i64 1, .int .i64 0] 3)).alloc (.cells #[.int .i64 5, .int .i64 2, .int .i64 5] 3)).alloc (.cells #[.int .i64 0, .int .i64 0, .int .i64 1] 3)).alloc (.cells #[.bool true, .bool false, .bool false] 4)) (aP12 w.heap.size) aD12 ∧ Below w.heap.size w (((((w.alloc (.cells #[.int .i64 0, .int .i64 0, .int .i64 0, .int .i64 0, .int .i64 0, .int .i64 0, .int .i64 0, .int .i64 0] 49)).alloc (.cells #[.int .i64 0, .int .i64 1, .int .i64 0] 3)).alloc (.cells #[.int .i64 5, .int .i64 2, .int .i64 5] 3)).alloc (.cells #[.int .i64 0, .int .i64 0, .int .i64 1] 3)).alloc (.cells #[.bool true, .bool false, .bool false] 4)) := by
  have b0 := Blk.newn w 49 #[.int .i64 0, .int .i64 0, .int .i64 0, .int .i64 0, .int .i64 0, .int .i64 0, .int .i64 0, .int .i64 0] (n := w.heap.size) rfl
  have b1 := Blk.newn (w.alloc (.cells #[.int .i64 0, .int .i64 0, .int .i64 0, .int .i64 0, .int .i64 0, .int .i64 0, .int .i64 0, .int .i64 0] 49)) 3 #[.int .i64 0, .int .i64 1, .int .i64 0] (n := w.heap.size + 1) (by simp)
  have b2 := Blk.newn ((w.alloc (.cells #[.int .i64 0, .int .i64 0, .int .i64 0, .int .i64 0, .int .i64 0, .int .i64 0, .int .i64 0, .int .i64 0] 49)).alloc (.cells #[.int .i64 0, .int .i64 1, .int .i64 0] 3)) 3 #[.int .i64 5, .int .i64 2, .int .i64 5] (n := w.heap.size + 1 + 1) (by simp)
  have b3 := Blk.newn (((w.alloc (.cells #[.int .i64 0, .int .i64 0, .int .i64 0, .int .i64 0, .int .i64 0, .int .i64 0, .int .i64 0, .int .i64 0] 49)).alloc (.cells #[.int .i64 0, .int .i64 1, .int .i64 0] 3)).alloc (.cells #[.int .i64 5, .int .i64 2, .int .i64 5] 3)) 3 #[.int .i64 0, .int .i64 0, .int .i64 1] (n := w.heap.size + 1 + 1 + 1) (by simp)
  have b4 := Blk.newn ((((w.alloc (.cells #[.int .i64 0, .int .i64 0, .int .i64 0, .int .i64 0, .int .i64 0, .int .i64 0, .int .i64 0, .int .i64 0] 49)).alloc (.cells #[.int .i64 0, .int .i64 1, .int .i64 0] 3)).alloc (.cells #[.int .i64 5, .int .i64 2, .int .i64 5] 3)).alloc (.cells #[.int .i64 0, .int .i64 0, .int .i64 1] 3)) 4 #[.bool true, .bool false, .bool false] (n := w.heap.size + 1 + 1 + 1 + 1) (by simp)
  exact ⟨aD12_at ((((b0.alloc _).alloc _).alloc _).alloc _) (((b1.alloc _).alloc _).alloc _) ((b2.alloc _).alloc _) (b3.alloc _) b4, (((((Below.refl _ _).alloc (Nat.le_refl _) _).alloc (by simp) _).alloc (by simp; omega) _).alloc (by simp; omega) _).alloc (by simp; omega) _⟩
/-- awake's world, as New answers it. -/
theorem aw12_new (n : Nat) (W : World) (h : DescAt W (aP12 n) aD12) : Calls Try.prog 22 #[.agg #[.slice (some ⟨n, 0, none⟩) 2 2, .slice (some ⟨n + 1, 0, none⟩) 3 3, .slice (some ⟨n + 1 + 1, 0, none⟩) 3 3, .slice (some ⟨n + 1 + 1 + 1, 0, none⟩) 3 3, .slice (some ⟨n + 1 + 1 + 1 + 1, 0, none⟩) 3 3, .int .i64 4, .int .i64 2, .int .i64 1]] W fun e w' => ∃ (a k wh : Option Addr) (ac kc whc : Nat), e = .returned (.agg #[.slice (some ⟨n, 0, none⟩) 2 2, .slice (some ⟨n + 1, 0, none⟩) 3 3, .slice (some ⟨n + 1 + 1, 0, none⟩) 3 3, .slice (some ⟨n + 1 + 1 + 1, 0, none⟩) 3 3, .slice (some ⟨n + 1 + 1 + 1 + 1, 0, none⟩) 3 3, .int .i64 4, .int .i64 2, .int .i64 1, .slice a 3 ac, .slice k 3 kc, .slice wh 3 whc]) ∧ WhNew W.heap.size w' (aP12 n) ⟨aP12 n, a, ac, k, kc, wh, whc⟩ aN12 ∧ Below W.heap.size W w' := by
  refine (refnew_own aD12 (aP12 n) W h (by decide)).mono ?_
  rintro e w' ⟨x, ⟨d, a, ac, k, kc, wh, whc⟩, rfl, rfl, hw, hb, hn⟩
  obtain ⟨rfl, _⟩ := id hn
  exact ⟨a, k, wh, ac, kc, whc, rfl, hn, hb⟩
theorem aw12_look (q0 : Wp) (W : World) (h : WorldAt W q0 aX12) : Calls Try.prog 11 #[.agg #[.slice q0.d.ex 2 q0.d.exc, .slice q0.d.pl 3 q0.d.plc, .slice q0.d.co 3 q0.d.coc, .slice q0.d.it 3 q0.d.itc, .slice q0.d.bo 3 q0.d.boc, .int .i64 4, .int .i64 2, .int .i64 1, .slice q0.at_ 3 q0.atc, .slice q0.co 3 q0.coc, .slice q0.wh 3 q0.whc], .int .i64 2] W fun e w' => ∃ pa ia pc ic, e = .returned (.agg #[.int .i64 0, .int .i64 9, .int .i64 0, .slice pa 2 pc, .slice ia 2 ic, .int .i64 0]) ∧ NewR W.heap.size w' pa ia aL12 ∧ Below W.heap.size W w' :=
  slook_any aX12 q0 2 W aX12_right h (by decide) aL12_eq
theorem aw12_own (q0 : Wp) (W : World) (h : WorldAt W q0 aX12) : Calls Try.prog 13 #[.agg #[.slice q0.d.ex 2 q0.d.exc, .slice q0.d.pl 3 q0.d.plc, .slice q0.d.co 3 q0.d.coc, .slice q0.d.it 3 q0.d.itc, .slice q0.d.bo 3 q0.d.boc, .int .i64 4, .int .i64 2, .int .i64 1, .slice q0.at_ 3 q0.atc, .slice q0.co 3 q0.coc, .slice q0.wh 3 q0.whc], .int .i64 1] W fun e w' => ∃ pa ia pc ic, e = .returned (.agg #[.int .i64 0, .int .i64 10, .int .i64 0, .slice pa 0 pc, .slice ia 1 ic, .int .i64 2]) ∧ NewR W.heap.size w' pa ia aO12 ∧ Below W.heap.size W w' :=
  sown_any aX12 q0 1 W aX12_right h (by decide) aO12_eq
theorem aw12_pres (q0 : Wp) (W : World) (h : WorldAt W q0 aX12) : Calls Try.prog 16 #[.agg #[.slice q0.d.ex 2 q0.d.exc, .slice q0.d.pl 3 q0.d.plc, .slice q0.d.co 3 q0.d.coc, .slice q0.d.it 3 q0.d.itc, .slice q0.d.bo 3 q0.d.boc, .int .i64 4, .int .i64 2, .int .i64 1, .slice q0.at_ 3 q0.atc, .slice q0.co 3 q0.coc, .slice q0.wh 3 q0.whc], .int .i64 1] W fun e w' => ∃ a c, e = .returned (.slice a 1 c) ∧ IntsAt w' a [1] ∧ Below W.heap.size W w' := by
  refine (spresent_any aX12 q0 1 W aX12_right h.at_).mono ?_
  rintro e w' ⟨a, c, rfl, ho, hb⟩
  rw [show presN aX12 aX12.at_.length 1 = [1] by decide] at ho ⊢
  exact ⟨a, c, rfl, ints_row.2 ho.row, hb⟩
theorem aw12_same1 (pa ia pb ib : Option Addr) (pc ic pcb icb : Nat) (W : World) (h1 : IntsAt W pa [0, 2]) (h2 : SnsAt W ia [⟨0, 0, 0⟩, ⟨1, 2, 0⟩]) (h3 : IntsAt W pb [0, 2]) (h4 : SnsAt W ib [⟨0, 0, 0⟩, ⟨1, 2, 0⟩]) : Calls Try.prog 10 #[.agg #[.int .i64 0, .int .i64 9, .int .i64 0, .slice pa 2 pc, .slice ia 2 ic, .int .i64 0], .agg #[.int .i64 0, .int .i64 9, .int .i64 0, .slice pb 2 pcb, .slice ib 2 icb, .int .i64 0]] W fun e w' => e = .returned (.bool true) ∧ Below W.heap.size W w' :=
  rrefsame_any aL12 aL12 pa ia pb ib pc ic pcb icb W h1 h2 h3 h4
theorem aw12_same2 (pa ia pb ib : Option Addr) (pc ic pcb icb : Nat) (W : World) (h1 : IntsAt W pa []) (h2 : SnsAt W ia [⟨2, 1, 1⟩]) (h3 : IntsAt W pb []) (h4 : SnsAt W ib [⟨2, 1, 1⟩]) : Calls Try.prog 10 #[.agg #[.int .i64 0, .int .i64 10, .int .i64 0, .slice pa 0 pc, .slice ia 1 ic, .int .i64 2], .agg #[.int .i64 0, .int .i64 10, .int .i64 0, .slice pb 0 pcb, .slice ib 1 icb, .int .i64 2]] W fun e w' => e = .returned (.bool true) ∧ Below W.heap.size W w' :=
  rrefsame_any aO12 aO12 pa ia pb ib pc ic pcb icb W h1 h2 h3 h4
theorem aw12_ints (a b : Option Addr) (ca cb : Nat) (W : World) (h1 : IntsAt W a [1]) (h2 : IntsAt W b [1]) : Calls Try.prog 15 #[.slice a 1 ca, .slice b 1 cb] W fun e w' => e = .returned (.bool true) ∧ Below W.heap.size W w' := by
  have := ints_any a b ca cb [1] [1] W h1 h2
  simpa using this
set_option maxRecDepth 100000 in
set_option maxHeartbeats 4000000 in
theorem awake12_any (w : World) : Calls Try.prog 8 #[] w fun e w' => e = .returned (.bool true) ∧ Below w.heap.size w w' := by
  have MK := make_exits12
  have A0 := Lib.hid (aw12_start w)
  go_enter Try.func8, Try.ntmps8
  go_wp2_with fail
  generalize (((((w.alloc (.cells #[.int .i64 0, .int .i64 0, .int .i64 0, .int .i64 0, .int .i64 0, .int .i64 0, .int .i64 0, .int .i64 0] 49)).alloc (.cells #[.int .i64 0, .int .i64 1, .int .i64 0] 3)).alloc (.cells #[.int .i64 5, .int .i64 2, .int .i64 5] 3)).alloc (.cells #[.int .i64 0, .int .i64 0, .int .i64 1] 3)).alloc (.cells #[.bool true, .bool false, .bool false] 4)) = V1 at *
  refine (aw12_new w.heap.size V1 A0.out.1).mono ?_
  rintro e w1 ⟨a, k, wh, ac, kc, whc, rfl, hn, b1⟩
  clear MK
  obtain ⟨b, hwh, hb1, hb2, ⟨c0, c1⟩, hf, hput⟩ := hn.putPlace (k := 1) (by decide)
  simp only at hwh
  subst hwh
  obtain ⟨b', hwh', _, _, ⟨c2, c3⟩, _, _⟩ := hn.putPlace (k := 2) (by decide)
  obtain rfl : b = b' := by simpa using hwh'
  obtain ⟨b', hwh2, _, _, _, _, hput2⟩ := (hput ⟨2, 0⟩).putPlace (k := 2) (by decide)
  obtain rfl : b = b' := by simpa using hwh2
  have HN := Lib.hid (hput2 ⟨1, 1⟩)
  have c0' : w1.cell? ⟨b, 2, none⟩ = some (.int .i64 0) := c0
  have c1' : w1.cell? ⟨b, 3, none⟩ = some (.int .i64 0) := c1
  have c2' : w1.cell? ⟨b, 4, none⟩ = some (.int .i64 0) := c2
  have c3' : w1.cell? ⟨b, 5, none⟩ = some (.int .i64 1) := c3
  clear hwh' hwh2 hput hput2 c0 c1 c2 c3
  have s1 := b1.size
  have s0 := A0.out.2.size
  have BS := Lib.hid ((((b1.setCell (p := ⟨b, 2, none⟩) (by show V1.heap.size ≤ b; omega) (.int .i64 2)).setCell (p := ⟨b, 3, none⟩) (by show V1.heap.size ≤ b; omega) (.int .i64 0)).setCell (p := ⟨b, 4, none⟩) (by show V1.heap.size ≤ b; omega) (.int .i64 1)).setCell (p := ⟨b, 5, none⟩) (by show V1.heap.size ≤ b; omega) (.int .i64 1))
  have z0 : ((((w1.setCell ⟨b, 2, none⟩ (.int .i64 2)).setCell ⟨b, 3, none⟩ (.int .i64 0)).setCell ⟨b, 4, none⟩ (.int .i64 1)).setCell ⟨b, 5, none⟩ (.int .i64 1)).heap.size = w1.heap.size := by simp [World.setCell]
  have ne1 : w1.heap.size ≠ b := by omega
  have ne2 : b ≠ w1.heap.size := by omega
  clear hn b1
  go_wp2_with fail
  clear c0' c1' c2' c3' hf
  have HN4 := Lib.hid (show WhNew V1.heap.size ((((w1.setCell ⟨b, 2, none⟩ (.int .i64 2)).setCell ⟨b, 3, none⟩ (.int .i64 0)).setCell ⟨b, 4, none⟩ (.int .i64 1)).setCell ⟨b, 5, none⟩ (.int .i64 1)) (aP12 w.heap.size) ⟨aP12 w.heap.size, a, ac, k, kc, some ⟨b, 0, none⟩, whc⟩ aX12 from HN.out)
  clear HN
  generalize ((((w1.setCell ⟨b, 2, none⟩ (.int .i64 2)).setCell ⟨b, 3, none⟩ (.int .i64 0)).setCell ⟨b, 4, none⟩ (.int .i64 1)).setCell ⟨b, 5, none⟩ (.int .i64 1)) = V4 at *
  have A4 := Lib.hid (HN4.out.world A0.out.1 BS.out)
  have BW := Lib.hid (A0.out.2.trans (BS.out.mono s0))
  have B_2 := Lib.hid (BW.out.alloc BW.out.size (.cells #[.slice (some ⟨w.heap.size, 0, none⟩) 2 2, .slice (some ⟨w.heap.size + 1, 0, none⟩) 3 3, .slice (some ⟨w.heap.size + 1 + 1, 0, none⟩) 3 3, .slice (some ⟨w.heap.size + 1 + 1 + 1, 0, none⟩) 3 3, .slice (some ⟨w.heap.size + 1 + 1 + 1 + 1, 0, none⟩) 3 3, .int .i64 4, .int .i64 2, .int .i64 1, .slice a 3 ac, .slice k 3 kc, .slice (some ⟨b, 0, none⟩) 3 whc] 29))
  have A_2 := Lib.hid (A4.out.call ((Below.refl _ _).alloc (Nat.le_refl _) (.cells #[.slice (some ⟨w.heap.size, 0, none⟩) 2 2, .slice (some ⟨w.heap.size + 1, 0, none⟩) 3 3, .slice (some ⟨w.heap.size + 1 + 1, 0, none⟩) 3 3, .slice (some ⟨w.heap.size + 1 + 1 + 1, 0, none⟩) 3 3, .slice (some ⟨w.heap.size + 1 + 1 + 1 + 1, 0, none⟩) 3 3, .int .i64 4, .int .i64 2, .int .i64 1, .slice a 3 ac, .slice k 3 kc, .slice (some ⟨b, 0, none⟩) 3 whc] 29)))
  have X_2 := Lib.hid (Holds.newb (w := w) (A := #[.slice (some ⟨w.heap.size, 0, none⟩) 2 2, .slice (some ⟨w.heap.size + 1, 0, none⟩) 3 3, .slice (some ⟨w.heap.size + 1 + 1, 0, none⟩) 3 3, .slice (some ⟨w.heap.size + 1 + 1 + 1, 0, none⟩) 3 3, .slice (some ⟨w.heap.size + 1 + 1 + 1 + 1, 0, none⟩) 3 3, .int .i64 4, .int .i64 2, .int .i64 1, .slice a 3 ac, .slice k 3 kc, .slice (some ⟨b, 0, none⟩) 3 whc]) (t := 29) (n := w1.heap.size) BW.out z0)
  generalize V4.alloc (.cells #[.slice (some ⟨w.heap.size, 0, none⟩) 2 2, .slice (some ⟨w.heap.size + 1, 0, none⟩) 3 3, .slice (some ⟨w.heap.size + 1 + 1, 0, none⟩) 3 3, .slice (some ⟨w.heap.size + 1 + 1 + 1, 0, none⟩) 3 3, .slice (some ⟨w.heap.size + 1 + 1 + 1 + 1, 0, none⟩) 3 3, .int .i64 4, .int .i64 2, .int .i64 1, .slice a 3 ac, .slice k 3 kc, .slice (some ⟨b, 0, none⟩) 3 whc] 29) = V5 at *
  clear A4 BW HN4 BS A0 z0 ne1 ne2 s0 s1 hb1 hb2
  have hcX := X_2.out.2.2
  have hlX := X_2.out.2.1
  refine (aw12_look ⟨aP12 w.heap.size, a, ac, k, kc, some ⟨b, 0, none⟩, whc⟩ _ A_2.out).mono ?_
  rintro e u6 ⟨paL, iaL, pcL, icL, rfl, g, b6⟩
  clear hcX hlX
  have B_3 := Lib.hid (bl B_2.out b6)
  have X_3 := Lib.hid (X_2.out.call b6)
  have A_3 := Lib.hid (A_2.out.call b6)
  clear b6 B_2 X_2 A_2
  have hcX := X_3.out.2.2
  have hlX := X_3.out.2.1
  have NL_3 := Lib.hid g
  clear g
  go_wp2_with fail
  clear hcX hlX
  have s4 : (u6.alloc (.cells #[.int .i64 0, .int .i64 9, .int .i64 0, .slice paL 2 pcL, .slice iaL 2 icL, .int .i64 0] 36)).heap.size = u6.heap.size + 1 := by simp
  have B_4 := Lib.hid (B_3.out.alloc B_3.out.size (.cells #[.int .i64 0, .int .i64 9, .int .i64 0, .slice paL 2 pcL, .slice iaL 2 icL, .int .i64 0] 36))
  have X_4 := Lib.hid (X_3.out.alloc (.cells #[.int .i64 0, .int .i64 9, .int .i64 0, .slice paL 2 pcL, .slice iaL 2 icL, .int .i64 0] 36))
  have A_4 := Lib.hid (A_3.out.call ((Below.refl _ _).alloc (Nat.le_refl _) (.cells #[.int .i64 0, .int .i64 9, .int .i64 0, .slice paL 2 pcL, .slice iaL 2 icL, .int .i64 0] 36)))
  have NL_4 := Lib.hid (NL_3.out.call ((Below.refl _ _).alloc (Nat.le_refl _) (.cells #[.int .i64 0, .int .i64 9, .int .i64 0, .slice paL 2 pcL, .slice iaL 2 icL, .int .i64 0] 36)))
  have L_4 := Lib.hid (Holds.newb (w := w) (A := #[.int .i64 0, .int .i64 9, .int .i64 0, .slice paL 2 pcL, .slice iaL 2 icL, .int .i64 0]) (t := 36) (n := u6.heap.size) B_3.out rfl)
  clear B_3 X_3 A_3 NL_3
  generalize u6.alloc (.cells #[.int .i64 0, .int .i64 9, .int .i64 0, .slice paL 2 pcL, .slice iaL 2 icL, .int .i64 0] 36) = V7 at *
  have hcX := X_4.out.2.2
  have hlX := X_4.out.2.1
  have hcL := L_4.out.2.2
  have hlL := L_4.out.2.1
  refine (aw12_own ⟨aP12 w.heap.size, a, ac, k, kc, some ⟨b, 0, none⟩, whc⟩ _ A_4.out).mono ?_
  rintro e u8 ⟨paO, iaO, pcO, icO, rfl, g, b8⟩
  clear hcX hlX hcL hlL
  have B_5 := Lib.hid (bl B_4.out b8)
  have X_5 := Lib.hid (X_4.out.call b8)
  have L_5 := Lib.hid (L_4.out.call b8)
  have A_5 := Lib.hid (A_4.out.call b8)
  have NL_5 := Lib.hid (NL_4.out.call b8)
  clear b8 B_4 X_4 L_4 A_4 NL_4
  have hcX := X_5.out.2.2
  have hlX := X_5.out.2.1
  have hcL := L_5.out.2.2
  have hlL := L_5.out.2.1
  have NO_5 := Lib.hid g
  clear g
  go_wp2_with fail
  clear hcX hlX hcL hlL
  have s6 : (u8.alloc (.cells #[.int .i64 0, .int .i64 10, .int .i64 0, .slice paO 0 pcO, .slice iaO 1 icO, .int .i64 2] 36)).heap.size = u8.heap.size + 1 := by simp
  have B_6 := Lib.hid (B_5.out.alloc B_5.out.size (.cells #[.int .i64 0, .int .i64 10, .int .i64 0, .slice paO 0 pcO, .slice iaO 1 icO, .int .i64 2] 36))
  have X_6 := Lib.hid (X_5.out.alloc (.cells #[.int .i64 0, .int .i64 10, .int .i64 0, .slice paO 0 pcO, .slice iaO 1 icO, .int .i64 2] 36))
  have L_6 := Lib.hid (L_5.out.alloc (.cells #[.int .i64 0, .int .i64 10, .int .i64 0, .slice paO 0 pcO, .slice iaO 1 icO, .int .i64 2] 36))
  have A_6 := Lib.hid (A_5.out.call ((Below.refl _ _).alloc (Nat.le_refl _) (.cells #[.int .i64 0, .int .i64 10, .int .i64 0, .slice paO 0 pcO, .slice iaO 1 icO, .int .i64 2] 36)))
  have NL_6 := Lib.hid (NL_5.out.call ((Below.refl _ _).alloc (Nat.le_refl _) (.cells #[.int .i64 0, .int .i64 10, .int .i64 0, .slice paO 0 pcO, .slice iaO 1 icO, .int .i64 2] 36)))
  have NO_6 := Lib.hid (NO_5.out.call ((Below.refl _ _).alloc (Nat.le_refl _) (.cells #[.int .i64 0, .int .i64 10, .int .i64 0, .slice paO 0 pcO, .slice iaO 1 icO, .int .i64 2] 36)))
  have O_6 := Lib.hid (Holds.newb (w := w) (A := #[.int .i64 0, .int .i64 10, .int .i64 0, .slice paO 0 pcO, .slice iaO 1 icO, .int .i64 2]) (t := 36) (n := u8.heap.size) B_5.out rfl)
  clear B_5 X_5 L_5 A_5 NL_5 NO_5
  generalize u8.alloc (.cells #[.int .i64 0, .int .i64 10, .int .i64 0, .slice paO 0 pcO, .slice iaO 1 icO, .int .i64 2] 36) = V9 at *
  have hcX := X_6.out.2.2
  have hlX := X_6.out.2.1
  have hcL := L_6.out.2.2
  have hlL := L_6.out.2.1
  have hcO := O_6.out.2.2
  have hlO := O_6.out.2.1
  clear hcX hlX hcL hlL hcO hlO
  have s7 : (V9.alloc (.cells #[.int .i64 0, .int .i64 2] 3)).heap.size = V9.heap.size + 1 := by simp
  have B_7 := Lib.hid (B_6.out.alloc B_6.out.size (.cells #[.int .i64 0, .int .i64 2] 3))
  have X_7 := Lib.hid (X_6.out.alloc (.cells #[.int .i64 0, .int .i64 2] 3))
  have L_7 := Lib.hid (L_6.out.alloc (.cells #[.int .i64 0, .int .i64 2] 3))
  have O_7 := Lib.hid (O_6.out.alloc (.cells #[.int .i64 0, .int .i64 2] 3))
  have A_7 := Lib.hid (A_6.out.call ((Below.refl _ _).alloc (Nat.le_refl _) (.cells #[.int .i64 0, .int .i64 2] 3)))
  have NL_7 := Lib.hid (NL_6.out.call ((Below.refl _ _).alloc (Nat.le_refl _) (.cells #[.int .i64 0, .int .i64 2] 3)))
  have NO_7 := Lib.hid (NO_6.out.call ((Below.refl _ _).alloc (Nat.le_refl _) (.cells #[.int .i64 0, .int .i64 2] 3)))
  have I1_7 := Lib.hid (show IntsAt (V9.alloc (.cells #[.int .i64 0, .int .i64 2] 3)) (some ⟨u8.heap.size + 1, 0, none⟩) [0, 2] from ints12 (Blk.newn V9 3 #[.int .i64 0, .int .i64 2] (n := u8.heap.size + 1) (by omega)) rfl (by simp))
  clear B_6 X_6 L_6 O_6 A_6 NL_6 NO_6
  generalize V9.alloc (.cells #[.int .i64 0, .int .i64 2] 3) = V10 at *
  have s8 : (V10.alloc (.cells #[.int .i64 0, .int .i64 0, .int .i64 0, .int .i64 1, .int .i64 2, .int .i64 0] 45)).heap.size = V10.heap.size + 1 := by simp
  have B_8 := Lib.hid (B_7.out.alloc B_7.out.size (.cells #[.int .i64 0, .int .i64 0, .int .i64 0, .int .i64 1, .int .i64 2, .int .i64 0] 45))
  have X_8 := Lib.hid (X_7.out.alloc (.cells #[.int .i64 0, .int .i64 0, .int .i64 0, .int .i64 1, .int .i64 2, .int .i64 0] 45))
  have L_8 := Lib.hid (L_7.out.alloc (.cells #[.int .i64 0, .int .i64 0, .int .i64 0, .int .i64 1, .int .i64 2, .int .i64 0] 45))
  have O_8 := Lib.hid (O_7.out.alloc (.cells #[.int .i64 0, .int .i64 0, .int .i64 0, .int .i64 1, .int .i64 2, .int .i64 0] 45))
  have A_8 := Lib.hid (A_7.out.call ((Below.refl _ _).alloc (Nat.le_refl _) (.cells #[.int .i64 0, .int .i64 0, .int .i64 0, .int .i64 1, .int .i64 2, .int .i64 0] 45)))
  have NL_8 := Lib.hid (NL_7.out.call ((Below.refl _ _).alloc (Nat.le_refl _) (.cells #[.int .i64 0, .int .i64 0, .int .i64 0, .int .i64 1, .int .i64 2, .int .i64 0] 45)))
  have NO_8 := Lib.hid (NO_7.out.call ((Below.refl _ _).alloc (Nat.le_refl _) (.cells #[.int .i64 0, .int .i64 0, .int .i64 0, .int .i64 1, .int .i64 2, .int .i64 0] 45)))
  have I1_8 := Lib.hid (I1_7.out.call ((Below.refl _ _).alloc (Nat.le_refl _) (.cells #[.int .i64 0, .int .i64 0, .int .i64 0, .int .i64 1, .int .i64 2, .int .i64 0] 45)))
  have I2_8 := Lib.hid (show SnsAt (V10.alloc (.cells #[.int .i64 0, .int .i64 0, .int .i64 0, .int .i64 1, .int .i64 2, .int .i64 0] 45)) (some ⟨u8.heap.size + 1 + 1, 0, none⟩) [⟨0, 0, 0⟩, ⟨1, 2, 0⟩] from sns12 (Blk.newn V10 45 #[.int .i64 0, .int .i64 0, .int .i64 0, .int .i64 1, .int .i64 2, .int .i64 0] (n := u8.heap.size + 1 + 1) (by omega)) rfl (by simp))
  clear B_7 X_7 L_7 O_7 A_7 NL_7 NO_7 I1_7
  generalize V10.alloc (.cells #[.int .i64 0, .int .i64 0, .int .i64 0, .int .i64 1, .int .i64 2, .int .i64 0] 45) = V11 at *
  have hcX := X_8.out.2.2
  have hlX := X_8.out.2.1
  have hcL := L_8.out.2.2
  have hlL := L_8.out.2.1
  have hcO := O_8.out.2.2
  have hlO := O_8.out.2.1
  refine (aw12_same1 _ _ _ _ _ _ _ _ _ NL_8.out.ints NL_8.out.sns I1_8.out I2_8.out).mono ?_
  rintro e u12 ⟨rfl, b12⟩
  clear hcX hlX hcL hlL hcO hlO
  have B_9 := Lib.hid (bl B_8.out b12)
  have X_9 := Lib.hid (X_8.out.call b12)
  have L_9 := Lib.hid (L_8.out.call b12)
  have O_9 := Lib.hid (O_8.out.call b12)
  have A_9 := Lib.hid (A_8.out.call b12)
  have NL_9 := Lib.hid (NL_8.out.call b12)
  have NO_9 := Lib.hid (NO_8.out.call b12)
  have I1_9 := Lib.hid (I1_8.out.call b12)
  have I2_9 := Lib.hid (I2_8.out.call b12)
  clear b12 B_8 X_8 L_8 O_8 A_8 NL_8 NO_8 I1_8 I2_8
  have hcX := X_9.out.2.2
  have hlX := X_9.out.2.1
  have hcL := L_9.out.2.2
  have hlL := L_9.out.2.1
  have hcO := O_9.out.2.2
  have hlO := O_9.out.2.1
  go_wp2_with fail
  clear hcX hlX hcL hlL hcO hlO
  have s10 : (u12.alloc (.cells #[.int .i64 2, .int .i64 1, .int .i64 1] 45)).heap.size = u12.heap.size + 1 := by simp
  have B_10 := Lib.hid (B_9.out.alloc B_9.out.size (.cells #[.int .i64 2, .int .i64 1, .int .i64 1] 45))
  have X_10 := Lib.hid (X_9.out.alloc (.cells #[.int .i64 2, .int .i64 1, .int .i64 1] 45))
  have L_10 := Lib.hid (L_9.out.alloc (.cells #[.int .i64 2, .int .i64 1, .int .i64 1] 45))
  have O_10 := Lib.hid (O_9.out.alloc (.cells #[.int .i64 2, .int .i64 1, .int .i64 1] 45))
  have A_10 := Lib.hid (A_9.out.call ((Below.refl _ _).alloc (Nat.le_refl _) (.cells #[.int .i64 2, .int .i64 1, .int .i64 1] 45)))
  have NL_10 := Lib.hid (NL_9.out.call ((Below.refl _ _).alloc (Nat.le_refl _) (.cells #[.int .i64 2, .int .i64 1, .int .i64 1] 45)))
  have NO_10 := Lib.hid (NO_9.out.call ((Below.refl _ _).alloc (Nat.le_refl _) (.cells #[.int .i64 2, .int .i64 1, .int .i64 1] 45)))
  have I1_10 := Lib.hid (I1_9.out.call ((Below.refl _ _).alloc (Nat.le_refl _) (.cells #[.int .i64 2, .int .i64 1, .int .i64 1] 45)))
  have I2_10 := Lib.hid (I2_9.out.call ((Below.refl _ _).alloc (Nat.le_refl _) (.cells #[.int .i64 2, .int .i64 1, .int .i64 1] 45)))
  have I3_10 := Lib.hid (show SnsAt (u12.alloc (.cells #[.int .i64 2, .int .i64 1, .int .i64 1] 45)) (some ⟨u12.heap.size, 0, none⟩) [⟨2, 1, 1⟩] from sns12 (Blk.newn u12 45 #[.int .i64 2, .int .i64 1, .int .i64 1] (n := u12.heap.size) rfl) rfl (by simp))
  clear B_9 X_9 L_9 O_9 A_9 NL_9 NO_9 I1_9 I2_9
  generalize u12.alloc (.cells #[.int .i64 2, .int .i64 1, .int .i64 1] 45) = V13 at *
  have hcX := X_10.out.2.2
  have hlX := X_10.out.2.1
  have hcL := L_10.out.2.2
  have hlL := L_10.out.2.1
  have hcO := O_10.out.2.2
  have hlO := O_10.out.2.1
  refine (aw12_same2 _ _ _ _ _ _ _ _ _ NO_10.out.ints NO_10.out.sns (IntsAt.nil _ _) I3_10.out).mono ?_
  rintro e u14 ⟨rfl, b14⟩
  clear hcX hlX hcL hlL hcO hlO
  have B_11 := Lib.hid (bl B_10.out b14)
  have X_11 := Lib.hid (X_10.out.call b14)
  have L_11 := Lib.hid (L_10.out.call b14)
  have O_11 := Lib.hid (O_10.out.call b14)
  have A_11 := Lib.hid (A_10.out.call b14)
  have NL_11 := Lib.hid (NL_10.out.call b14)
  have NO_11 := Lib.hid (NO_10.out.call b14)
  have I1_11 := Lib.hid (I1_10.out.call b14)
  have I2_11 := Lib.hid (I2_10.out.call b14)
  have I3_11 := Lib.hid (I3_10.out.call b14)
  clear b14 B_10 X_10 L_10 O_10 A_10 NL_10 NO_10 I1_10 I2_10 I3_10
  have hcX := X_11.out.2.2
  have hlX := X_11.out.2.1
  have hcL := L_11.out.2.2
  have hlL := L_11.out.2.1
  have hcO := O_11.out.2.2
  have hlO := O_11.out.2.1
  go_wp2_with fail
  refine (aw12_pres ⟨aP12 w.heap.size, a, ac, k, kc, some ⟨b, 0, none⟩, whc⟩ _ A_11.out).mono ?_
  rintro e u15 ⟨ap, cp, rfl, g, b15⟩
  clear hcX hlX hcL hlL hcO hlO
  have B_12 := Lib.hid (bl B_11.out b15)
  have X_12 := Lib.hid (X_11.out.call b15)
  have L_12 := Lib.hid (L_11.out.call b15)
  have O_12 := Lib.hid (O_11.out.call b15)
  have A_12 := Lib.hid (A_11.out.call b15)
  have NL_12 := Lib.hid (NL_11.out.call b15)
  have NO_12 := Lib.hid (NO_11.out.call b15)
  have I1_12 := Lib.hid (I1_11.out.call b15)
  have I2_12 := Lib.hid (I2_11.out.call b15)
  have I3_12 := Lib.hid (I3_11.out.call b15)
  clear b15 B_11 X_11 L_11 O_11 A_11 NL_11 NO_11 I1_11 I2_11 I3_11
  have hcX := X_12.out.2.2
  have hlX := X_12.out.2.1
  have hcL := L_12.out.2.2
  have hlL := L_12.out.2.1
  have hcO := O_12.out.2.2
  have hlO := O_12.out.2.1
  have PR_12 := Lib.hid g
  clear g
  go_wp2_with fail
  clear hcX hlX hcL hlL hcO hlO
  have s13 : (u15.alloc (.cells #[.int .i64 1] 3)).heap.size = u15.heap.size + 1 := by simp
  have B_13 := Lib.hid (B_12.out.alloc B_12.out.size (.cells #[.int .i64 1] 3))
  have X_13 := Lib.hid (X_12.out.alloc (.cells #[.int .i64 1] 3))
  have L_13 := Lib.hid (L_12.out.alloc (.cells #[.int .i64 1] 3))
  have O_13 := Lib.hid (O_12.out.alloc (.cells #[.int .i64 1] 3))
  have A_13 := Lib.hid (A_12.out.call ((Below.refl _ _).alloc (Nat.le_refl _) (.cells #[.int .i64 1] 3)))
  have NL_13 := Lib.hid (NL_12.out.call ((Below.refl _ _).alloc (Nat.le_refl _) (.cells #[.int .i64 1] 3)))
  have NO_13 := Lib.hid (NO_12.out.call ((Below.refl _ _).alloc (Nat.le_refl _) (.cells #[.int .i64 1] 3)))
  have I1_13 := Lib.hid (I1_12.out.call ((Below.refl _ _).alloc (Nat.le_refl _) (.cells #[.int .i64 1] 3)))
  have I2_13 := Lib.hid (I2_12.out.call ((Below.refl _ _).alloc (Nat.le_refl _) (.cells #[.int .i64 1] 3)))
  have I3_13 := Lib.hid (I3_12.out.call ((Below.refl _ _).alloc (Nat.le_refl _) (.cells #[.int .i64 1] 3)))
  have PR_13 := Lib.hid (PR_12.out.call ((Below.refl _ _).alloc (Nat.le_refl _) (.cells #[.int .i64 1] 3)))
  have I4_13 := Lib.hid (show IntsAt (u15.alloc (.cells #[.int .i64 1] 3)) (some ⟨u15.heap.size, 0, none⟩) [1] from ints12 (Blk.newn u15 3 #[.int .i64 1] (n := u15.heap.size) rfl) rfl (by simp))
  clear B_12 X_12 L_12 O_12 A_12 NL_12 NO_12 I1_12 I2_12 I3_12 PR_12
  generalize u15.alloc (.cells #[.int .i64 1] 3) = V16 at *
  refine (aw12_ints _ _ _ _ _ PR_13.out I4_13.out).mono ?_
  rintro e u17 ⟨rfl, b17⟩
  have B_14 := Lib.hid (bl B_13.out b17)
  have X_14 := Lib.hid (X_13.out.call b17)
  have L_14 := Lib.hid (L_13.out.call b17)
  have O_14 := Lib.hid (O_13.out.call b17)
  have A_14 := Lib.hid (A_13.out.call b17)
  have NL_14 := Lib.hid (NL_13.out.call b17)
  have NO_14 := Lib.hid (NO_13.out.call b17)
  have I1_14 := Lib.hid (I1_13.out.call b17)
  have I2_14 := Lib.hid (I2_13.out.call b17)
  have I3_14 := Lib.hid (I3_13.out.call b17)
  have PR_14 := Lib.hid (PR_13.out.call b17)
  have I4_14 := Lib.hid (I4_13.out.call b17)
  clear b17 B_13 X_13 L_13 O_13 A_13 NL_13 NO_13 I1_13 I2_13 I3_13 PR_13 I4_13
  go_wp2_with fail
  go_ret
  exact ⟨rfl, B_14.out⟩
set_option maxRecDepth 100000 in
theorem fits12_any (x : Wd) (p : Wp) (w : World) (h : WorldAt w p x) : Calls Try.prog 9 #[.agg #[.slice p.d.ex x.d.exits.length p.d.exc, .slice p.d.pl x.d.players.length p.d.plc, .slice p.d.co x.d.coins.length p.d.coc, .slice p.d.it x.d.items.length p.d.itc, .slice p.d.bo x.d.boxes.length p.d.boc, .int .i64 x.d.room, .int .i64 x.d.player, .int .i64 x.d.box, .slice p.at_ x.at_.length p.atc, .slice p.co x.coins.length p.coc, .slice p.wh x.wher.length p.whc]] w fun e w' => e = .returned (.bool (fitsB x)) ∧ Below w.heap.size w w' := by
  have HN := Lib.hid (Holds.new w #[.slice p.d.ex x.d.exits.length p.d.exc, .slice p.d.pl x.d.players.length p.d.plc, .slice p.d.co x.d.coins.length p.d.coc, .slice p.d.it x.d.items.length p.d.itc, .slice p.d.bo x.d.boxes.length p.d.boc, .int .i64 x.d.room, .int .i64 x.d.player, .int .i64 x.d.box, .slice p.at_ x.at_.length p.atc, .slice p.co x.coins.length p.coc, .slice p.wh x.wher.length p.whc] 29)
  have H := Lib.hid h
  clear h
  cases hf : fewB x
  · have HF := Lib.hid hf
    have HR := Lib.hid (show fitsB x = false by simp [fitsB, hf])
    clear hf
    go_enter Try.func9, Try.ntmps9
    go_wp2_with fail
    refine (few_any x p _).mono ?_
    rintro e w1 ⟨rfl, b1⟩
    rw [HF.out]
    have K1 := Lib.hid (HN.out.call b1)
    clear b1
    go_wp2_with fail
    go_ret
    exact ⟨ret_bool HR.out.symm, K1.out.1⟩
  · have HF := Lib.hid hf
    have HR := Lib.hid (show fitsB x = rightW x by simp [fitsB, hf])
    obtain ⟨r, hr⟩ : ∃ r, rightW x = r := ⟨_, rfl⟩
    have HRR := Lib.hid hr
    clear hf hr
    go_enter Try.func9, Try.ntmps9
    go_wp2_with fail
    refine (few_any x p _).mono ?_
    rintro e w1 ⟨rfl, b1⟩
    rw [HF.out]
    have K1 := Lib.hid (HN.out.call b1)
    have hc := K1.out.2.2
    have hl := K1.out.2.1
    clear b1
    go_wp2_with fail
    refine (refright_any x p _ (H.out.below K1.out.1 (Nat.le_refl _))).mono ?_
    rintro e w2 ⟨rfl, b2⟩
    rw [HRR.out]
    have K2 := Lib.hid (K1.out.call b2)
    clear b2 hc hl
    go_wp2_with fail
    go_ret
    exact ⟨ret_bool (by rw [HR.out, HRR.out]), K2.out.1⟩
end Go.Proofs.Ytojfichbnnfjpaa
