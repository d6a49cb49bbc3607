import Derived.Test.YtinjpkbpdhihjaaDoorRows
import Derived.Test.YtinjpkbpdhihjaaDoorKit
import Derived.Test.YtinjpkbpdhihjaaDoorStrs
import Derived.Test.YtinjpkbpdhihjaaDoorJTab
import Derived.Test.YtinjpkbpdhihjaaDoorJBlk
import Derived.Test.YtinjpkbpdhihjaaDoorJMath
import Derived.Test.YtinjpkbpdhihjaaDoorJCmdNames1
import Derived.Laws.EntriesVeiled
import Derived.WalkKit
import Derived.ProofKit
import Derived.OpenShut
import Derived.IntWalk
/- line: a piece of a command's words as it lies in memory: its two closures; how pieces are made. -/
namespace Go.Proofs.YtinjpkbpdhihjaaDoor
open Go.ChangeShapes Go.WideShapes Go.ChangeAt Go.RowKit
set_option linter.unusedVariables false
open Go.RowKit
def Fd.off : Fd → Nat
  | .kind => 0 | .dir => 1 | .item => 2 | .box => 3 | .who => 4 | .pay => 6 | .fee => 8
def sideOff (g : Bool) : Nat := if g then 5 else 7
/-- The function that tells a number's word. -/
def Kd.wf : Kd → Value
  | .name => .func (.func 41) #[] #[] | .way => .func (.func 61) #[] #[] | .num => .func (.func 63) #[] #[]
/-- The function that tells a word's number. -/
def Kd.nf : Kd → Value
  | .name => .func (.func 42) #[] #[] | .way => .func (.func 62) #[] #[] | .num => .func (.func 64) #[] #[]
/-- A piece's two closures, bound to fields of the command in block B; what they captured lies in blocks from lo on. -/
def PartAt (W : World) (lo B : Nat) (pv tv : Value) : Pt → Prop
  | .one k f => ∃ a b c, lo ≤ a ∧ lo ≤ b ∧ lo ≤ c ∧ pv = .func (.func 59) #[] #[.pointer (some ⟨b, 0, none⟩), .pointer (some ⟨a, 0, none⟩)] ∧ tv = .func (.func 60) #[] #[.pointer (some ⟨c, 0, none⟩), .pointer (some ⟨a, 0, none⟩)] ∧
      Blk W a 70 #[.pointer (some ⟨B, f.off, none⟩)] ∧ Blk W b 43 #[k.wf] ∧ Blk W c 60 #[k.nf]
  | .word x => ∃ a, lo ≤ a ∧ pv = .func (.func 65) #[] #[.pointer (some ⟨a, 0, none⟩)] ∧ tv = .func (.func 66) #[] #[.pointer (some ⟨a, 0, none⟩)] ∧ Blk W a 9 #[str x]
  | .nums g => ∃ a, lo ≤ a ∧ pv = .func (.func 72) #[] #[.pointer (some ⟨a, 0, none⟩)] ∧ tv = .func (.func 73) #[] #[.pointer (some ⟨a, 0, none⟩)] ∧ Blk W a 94 #[.pointer (some ⟨B, sideOff g, none⟩)]
/-- The blocks from lo on stay. -/
def Stay (lo : Nat) (W W' : World) : Prop := ∀ b, lo ≤ b → b < W.heap.size → W'.heap[b]? = W.heap[b]?
theorem Stay.refl (lo : Nat) (W : World) : Stay lo W W := fun _ _ _ => rfl
theorem Stay.trans {lo : Nat} {W W1 W2 : World} (h : Stay lo W W1) (hs : W.heap.size ≤ W1.heap.size) (k : Stay lo W1 W2) : Stay lo W W2 := fun b h1 h2 => (k b h1 (by omega)).trans (h b h1 h2)
theorem Stay.below {lo : Nat} {W W' : World} (h : Below W.heap.size W W') : Stay lo W W' := fun b _ h2 => h.block b h2
theorem Blk.stay {W W' : World} {g lo : Nat} {t : TypeId} {cs : Array Value} (h : Blk W g t cs) (hs : Stay lo W W') (hg : lo ≤ g) : Blk W' g t cs := (hs g hg h.lt).trans h
theorem PartAt.stay {W W' : World} {lo B : Nat} {pv tv : Value} {p : Pt} (h : PartAt W lo B pv tv p) (hs : Stay lo W W') : PartAt W' lo B pv tv p := by
  cases p with
  | one k f =>
    obtain ⟨a, b, c, h1, h2, h3, e1, e2, b1, b2, b3⟩ := h
    exact ⟨a, b, c, h1, h2, h3, e1, e2, b1.stay hs h1, b2.stay hs h2, b3.stay hs h3⟩
  | word x => obtain ⟨a, h1, e1, e2, b1⟩ := h; exact ⟨a, h1, e1, e2, b1.stay hs h1⟩
  | nums g => obtain ⟨a, h1, e1, e2, b1⟩ := h; exact ⟨a, h1, e1, e2, b1.stay hs h1⟩
theorem PartAt.mono {W : World} {lo lo' B : Nat} {pv tv : Value} {p : Pt} (h : PartAt W lo B pv tv p) (hl : lo' ≤ lo) : PartAt W lo' B pv tv p := by
  cases p with
  | one k f =>
    obtain ⟨a, b, c, h1, h2, h3, e⟩ := h
    exact ⟨a, b, c, by omega, by omega, by omega, e⟩
  | word x => obtain ⟨a, h1, e⟩ := h; exact ⟨a, by omega, e⟩
  | nums g => obtain ⟨a, h1, e⟩ := h; exact ⟨a, by omega, e⟩
/-- A call that makes a piece. -/
def MakesPart (w : World) (B : Nat) (p : Pt) (e : Ending) (w' : World) : Prop := ∃ pv tv, e = .returned (.agg #[pv, tv]) ∧ PartAt w' w.heap.size B pv tv p ∧ Below w.heap.size w w'
theorem hmf (fn : Fn) (first cap : Array Value) (w : World) : (Instr.makeFunc fn first cap).run Tryd.prog w = .ok (.func fn first cap) w := rfl

theorem one_lit (o B F G : Nat) (w : World) : Calls Tryd.prog 40 #[.pointer (some ⟨B, o, none⟩), .func (.func F) #[] #[], .func (.func G) #[] #[]] w fun e w' =>
    e = .returned (.agg #[.func (.func 59) #[] #[.pointer (some ⟨w.heap.size + 1, 0, none⟩), .pointer (some ⟨w.heap.size, 0, none⟩)], .func (.func 60) #[] #[.pointer (some ⟨w.heap.size + 1 + 1, 0, none⟩), .pointer (some ⟨w.heap.size, 0, none⟩)]]) ∧
    Blk w' w.heap.size 70 #[.pointer (some ⟨B, o, none⟩)] ∧ Blk w' (w.heap.size + 1) 43 #[.func (.func F) #[] #[]] ∧ Blk w' (w.heap.size + 1 + 1) 60 #[.func (.func G) #[] #[]] ∧ Below w.heap.size w w' := by
  have hm := hmf
  go_enter Tryd.func40, Tryd.ntmps40
  go_wp2_with fail
  refine bodyPost_ret (v := .agg #[.func (.func 59) #[] #[.pointer (some ⟨w.heap.size + 1, 0, none⟩), .pointer (some ⟨w.heap.size, 0, none⟩)], .func (.func 60) #[] #[.pointer (some ⟨w.heap.size + 1 + 1, 0, none⟩), .pointer (some ⟨w.heap.size, 0, none⟩)]]) (by simp [results, Tryd.results40, go_sem]) rfl ⟨rfl, ?_⟩
  have b0 := Blk.new w 70 #[.pointer (some ⟨B, o, none⟩)]
  have b1 := Blk.newn (w.alloc (.cells #[.pointer (some ⟨B, o, none⟩)] 70)) 43 #[.func (.func F) #[] #[]] (n := w.heap.size + 1) (by simp)
  have b2 := Blk.newn ((w.alloc (.cells #[.pointer (some ⟨B, o, none⟩)] 70)).alloc (.cells #[.func (.func F) #[] #[]] 43)) 60 #[.func (.func G) #[] #[]] (n := w.heap.size + 1 + 1) (by simp)
  refine ⟨((b0.alloc _).alloc _).alloc _, (b1.alloc _).alloc _, b2.alloc _, ((((Below.refl _ _).alloc (Nat.le_refl _) _).alloc ?_ _).alloc ?_ _).alloc ?_ _⟩
  all_goals (simp; try omega)
theorem one_make (k : Kd) (f : Fd) (B : Nat) (w : World) : Calls Tryd.prog 40 #[.pointer (some ⟨B, f.off, none⟩), k.wf, k.nf] w (MakesPart w B (.one k f)) := by
  cases k
  · exact (one_lit f.off B 41 42 w).mono fun e w' ⟨h, b0, b1, b2, hb⟩ => ⟨_, _, h, ⟨_, _, _, Nat.le_refl _, by omega, by omega, rfl, rfl, b0, b1, b2⟩, hb⟩
  · exact (one_lit f.off B 61 62 w).mono fun e w' ⟨h, b0, b1, b2, hb⟩ => ⟨_, _, h, ⟨_, _, _, Nat.le_refl _, by omega, by omega, rfl, rfl, b0, b1, b2⟩, hb⟩
  · exact (one_lit f.off B 63 64 w).mono fun e w' ⟨h, b0, b1, b2, hb⟩ => ⟨_, _, h, ⟨_, _, _, Nat.le_refl _, by omega, by omega, rfl, rfl, b0, b1, b2⟩, hb⟩
theorem word_make (x : ByteArray) (B : Nat) (w : World) : Calls Tryd.prog 45 #[.string x] w (MakesPart w B (.word x.data.toList)) := by
  have hm := hmf
  go_enter Tryd.func45, Tryd.ntmps45
  go_wp2_with fail
  refine bodyPost_ret (v := .agg #[.func (.func 65) #[] #[.pointer (some ⟨w.heap.size, 0, none⟩)], .func (.func 66) #[] #[.pointer (some ⟨w.heap.size, 0, none⟩)]]) (by simp [results, Tryd.results45, go_sem]) rfl ⟨_, _, rfl, ⟨_, Nat.le_refl _, rfl, rfl, ?_⟩, ?_⟩
  · rw [← str_of]
    exact (Blk.new w 9 #[.string x]).alloc _
  · exact ((Below.refl _ _).alloc (Nat.le_refl _) _).alloc (by simp) _
theorem nums_make (g : Bool) (B : Nat) (w : World) : Calls Tryd.prog 67 #[.pointer (some ⟨B, sideOff g, none⟩)] w (MakesPart w B (.nums g)) := by
  have hm := hmf
  go_enter Tryd.func67, Tryd.ntmps67
  go_wp2_with fail
  refine bodyPost_ret (v := .agg #[.func (.func 72) #[] #[.pointer (some ⟨w.heap.size, 0, none⟩)], .func (.func 73) #[] #[.pointer (some ⟨w.heap.size, 0, none⟩)]]) (by simp [results, Tryd.results67, go_sem]) rfl ⟨_, _, rfl, ⟨_, Nat.le_refl _, rfl, rfl, ?_⟩, ?_⟩
  · exact (Blk.new w 94 #[.pointer (some ⟨B, sideOff g, none⟩)]).alloc _
  · exact ((Below.refl _ _).alloc (Nat.le_refl _) _).alloc (by simp) _
/-- A call that hands on a piece that another one made: its result lies in a block of its own. -/
theorem MakesPart.on {w w1 w2 : World} {B : Nat} {p : Pt} {pv tv : Value} {n : Nat} (hn : w.heap.size ≤ n) (hw : w1.heap.size = w.heap.size + 1) (hb1 : Below w.heap.size w w1) (hp : PartAt w2 w1.heap.size B pv tv p) (hb : Below w1.heap.size w1 w2) (u v : Value)
    (hlt : n < w1.heap.size) : PartAt ((w2.setCell ⟨n, 0, none⟩ u).setCell ⟨n, 1, none⟩ v) w.heap.size B pv tv p ∧ Below w.heap.size w ((w2.setCell ⟨n, 0, none⟩ u).setCell ⟨n, 1, none⟩ v) := by
  refine ⟨(hp.stay (fun b h1 h2 => ?_)).mono (by omega), ((hb1.trans (hb.mono (by omega))).setCell hn _).setCell hn _⟩
  exact (Below.heap_setCell _ _ _ b (by show b ≠ n; omega)).trans (Below.heap_setCell _ _ _ b (by show b ≠ n; omega))
theorem PartAt.funcs {W : World} {lo B : Nat} {pv tv : Value} {p : Pt} (h : PartAt W lo B pv tv p) : ∃ F fs G gs, pv = .func (.func F) #[] fs ∧ tv = .func (.func G) #[] gs := by
  cases p with
  | one k f => obtain ⟨a, b, c, h1, h2, h3, rfl, rfl, _⟩ := h; exact ⟨_, _, _, _, rfl, rfl⟩
  | word x => obtain ⟨a, h1, rfl, rfl, _⟩ := h; exact ⟨_, _, _, _, rfl, rfl⟩
  | nums g => obtain ⟨a, h1, rfl, rfl, _⟩ := h; exact ⟨_, _, _, _, rfl, rfl⟩
/-- What the walk wants of the block that waits for a result. -/
theorem wait_blk (w w1 : World) (hb : Below (w.alloc (.cells #[.nilFunc, .nilFunc] 50)).heap.size (w.alloc (.cells #[.nilFunc, .nilFunc] 50)) w1) :
    (w1.cell? ⟨w.heap.size, 0, none⟩ = some .nilFunc ∧ w1.cell? ⟨w.heap.size, 1, none⟩ = some .nilFunc) ∧ w1.frozen? ⟨w.heap.size, 0, none⟩ = false ∧ w1.frozen? ⟨w.heap.size, 1, none⟩ = false := by
  have b := (Blk.new w 50 #[.nilFunc, .nilFunc]).call hb
  exact ⟨⟨b.cell 0, b.cell 1⟩, b.frozen 0, b.frozen 1⟩
theorem name_make (B : Nat) (w : World) : Calls Tryd.prog 23 #[.pointer (some ⟨B, 0, none⟩)] w (MakesPart w B (.one .name .kind)) := by
  go_enter Tryd.func23, Tryd.ntmps23
  go_wp2_with fail
  refine (one_make .name .kind B _).mono ?_
  rintro e w1 ⟨pv, tv, rfl, hp, hb⟩
  obtain ⟨F, fs, G, gs, rfl, rfl⟩ := hp.funcs
  obtain ⟨⟨c0, c1⟩, f0, f1⟩ := wait_blk w w1 hb
  have HR := Lib.hid (MakesPart.on (n := w.heap.size) (Nat.le_refl _) (by simp) ((Below.refl w.heap.size w).alloc (Nat.le_refl _) _) hp hb (.func (.func F) #[] fs) (.func (.func G) #[] gs) (by simp))
  have HP := Lib.hid hp
  have HB := Lib.hid hb
  clear hp hb
  go_wp2_with fail
  refine bodyPost_ret (v := .agg #[.func (.func F) #[] fs, .func (.func G) #[] gs]) (by simp [results, Tryd.results23, go_sem, c0, c1]) rfl ⟨_, _, rfl, HR.out⟩
theorem way_make (f : Fd) (B : Nat) (w : World) : Calls Tryd.prog 43 #[.pointer (some ⟨B, f.off, none⟩)] w (MakesPart w B (.one .way f)) := by
  go_enter Tryd.func43, Tryd.ntmps43
  go_wp2_with fail
  refine (one_make .way f B _).mono ?_
  rintro e w1 ⟨pv, tv, rfl, hp, hb⟩
  obtain ⟨F, fs, G, gs, rfl, rfl⟩ := hp.funcs
  obtain ⟨⟨c0, c1⟩, f0, f1⟩ := wait_blk w w1 hb
  have HR := Lib.hid (MakesPart.on (n := w.heap.size) (Nat.le_refl _) (by simp) ((Below.refl w.heap.size w).alloc (Nat.le_refl _) _) hp hb (.func (.func F) #[] fs) (.func (.func G) #[] gs) (by simp))
  have HP := Lib.hid hp
  have HB := Lib.hid hb
  clear hp hb
  go_wp2_with fail
  refine bodyPost_ret (v := .agg #[.func (.func F) #[] fs, .func (.func G) #[] gs]) (by simp [results, Tryd.results43, go_sem, c0, c1]) rfl ⟨_, _, rfl, HR.out⟩
theorem number_make (f : Fd) (B : Nat) (w : World) : Calls Tryd.prog 44 #[.pointer (some ⟨B, f.off, none⟩)] w (MakesPart w B (.one .num f)) := by
  go_enter Tryd.func44, Tryd.ntmps44
  go_wp2_with fail
  refine (one_make .num f B _).mono ?_
  rintro e w1 ⟨pv, tv, rfl, hp, hb⟩
  obtain ⟨F, fs, G, gs, rfl, rfl⟩ := hp.funcs
  obtain ⟨⟨c0, c1⟩, f0, f1⟩ := wait_blk w w1 hb
  have HR := Lib.hid (MakesPart.on (n := w.heap.size) (Nat.le_refl _) (by simp) ((Below.refl w.heap.size w).alloc (Nat.le_refl _) _) hp hb (.func (.func F) #[] fs) (.func (.func G) #[] gs) (by simp))
  have HP := Lib.hid hp
  have HB := Lib.hid hb
  clear hp hb
  go_wp2_with fail
  refine bodyPost_ret (v := .agg #[.func (.func F) #[] fs, .func (.func G) #[] gs]) (by simp [results, Tryd.results44, go_sem, c0, c1]) rfl ⟨_, _, rfl, HR.out⟩
end Go.Proofs.YtinjpkbpdhihjaaDoor
