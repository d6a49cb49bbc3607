import Derived.Test.YtinjpkbpdhihjaaDoorRows
import Derived.Test.YtinjpkbpdhihjaaDoorKit
import Derived.Test.YtinjpkbpdhihjaaDoorStrs
import Derived.Test.YtinjpkbpdhihjaaDoorJTab
import Derived.Test.YtinjpkbpdhihjaaDoorJBlk
import Derived.Test.YtinjpkbpdhihjaaDoorJMath
import Derived.Test.YtinjpkbpdhihjaaDoorJNum
import Derived.Test.YtinjpkbpdhihjaaDoorJTokJoin
import Derived.Test.YtinjpkbpdhihjaaDoorJCut
import Derived.Test.YtinjpkbpdhihjaaDoorJGrown
import Derived.Test.YtinjpkbpdhihjaaDoorJCmd
import Derived.Test.YtinjpkbpdhihjaaDoorJMay
import Derived.Test.YtinjpkbpdhihjaaDoorJCmdRefNames
import Derived.Test.YtinjpkbpdhihjaaDoorJWords
import Derived.Test.YtinjpkbpdhihjaaDoorJPut
import Derived.Test.YtinjpkbpdhihjaaDoorJLinePut3
import Derived.Test.YtinjpkbpdhihjaaDoorJTake
import Derived.Test.YtinjpkbpdhihjaaDoorJLineTake4
import Derived.Test.YtinjpkbpdhihjaaDoorJLineRead
import Derived.Test.YtinjpkbpdhihjaaDoorJLineGet
import Derived.Test.YtinjpkbpdhihjaaDoorJLinePut
import Derived.Test.YtinjpkbpdhihjaaDoorJRefA
import Derived.Test.YtinjpkbpdhihjaaDoorJLineRef3
import Derived.Test.YtinjpkbpdhihjaaDoorJRefB
import Derived.Test.YtinjpkbpdhihjaaDoorJRefC
import Derived.WalkKit
import Derived.ProofKit
import Derived.OpenShut
import Derived.IntWalk
/- line: the document's own Get, of whatever line. -/
namespace Go.Proofs.YtinjpkbpdhihjaaDoor
open Go.ChangeShapes Go.WideShapes Go.ChangeAt Go.RowKit
set_option linter.unusedVariables false
open Go.RowKit Go
set_option maxRecDepth 100000 in
set_option maxHeartbeats 4000000 in
theorem refget_none (s : ByteArray) (w : World) (hs : s.size ≤ 500000) (hx : words s.data.toList = []) : Calls Tryd.prog 14 #[.string s] w (Gets w (words s.data.toList)) := by
  have HS := Lib.hid hs
  have HX := Lib.hid hx
  clear hs hx
  have P0 := Lib.hid (GetW.start w)
  unfold zeroCells at P0
  go_enter Tryd.func14, Tryd.ntmps14
  go_wp2_with fail
  refine (refcut_any s _ (by have := HS.out; omega)).mono ?_
  rintro e w1 ⟨v, rfl, hv, b1⟩
  have P1 := Lib.hid (P0.out.below b1)
  clear P0 b1
  rw [HX.out] at hv ⊢
  obtain ⟨a, cap, rfl, -, -⟩ := hv
  have hres := P1.out.2.2.cell
  have hfr := P1.out.2.2.frozen
  unfold zeroCells at hres
  go_wp2_with fail
  generalize hW : ((((((((w1.setCell ⟨w.heap.size, 0, none⟩ _).setCell ⟨w.heap.size, 1, none⟩ _).setCell ⟨w.heap.size, 2, none⟩ _).setCell ⟨w.heap.size, 3, none⟩ _).setCell ⟨w.heap.size, 4, none⟩ _).setCell ⟨w.heap.size, 5, none⟩ _).setCell ⟨w.heap.size, 6, none⟩ _).setCell ⟨w.heap.size, 7, none⟩ _).setCell ⟨w.heap.size, 8, none⟩ _ = W'
  obtain ⟨k1, k2⟩ := fin9 P1.out.2.2 _ _ _ _ _ _ _ _ _ hW.symm
  have hc := k1.cell
  refine bodyPost_ret (v := .tuple #[.agg #[.int .i64 0, .int .i64 0, .int .i64 0, .int .i64 0, .int .i64 0, .slice none 0 0, .int .i64 0, .slice none 0 0, .int .i64 0], .int .i64 2]) (by simp [results, Tryd.results14, go_sem, hc]) rfl ?_
  exact gets_no P1.out ⟨k1, k2⟩ (by rw [HX.out]; decide)
theorem kindN_range (x : List UInt8) : ∃ k : Nat, kindN x = (k : Int) ∧ k ≤ 10 := by
  by_cases h : kindB x = true
  · have hm : x ∈ kindNames := of_decide_eq_true h
    simp only [kindNames, List.mem_cons, List.not_mem_nil, or_false] at hm
    rcases hm with rfl | rfl | rfl | rfl | rfl | rfl | rfl | rfl | rfl | rfl
    · exact ⟨1, by decide, by decide⟩
    · exact ⟨2, by decide, by decide⟩
    · exact ⟨3, by decide, by decide⟩
    · exact ⟨4, by decide, by decide⟩
    · exact ⟨5, by decide, by decide⟩
    · exact ⟨6, by decide, by decide⟩
    · exact ⟨7, by decide, by decide⟩
    · exact ⟨8, by decide, by decide⟩
    · exact ⟨9, by decide, by decide⟩
    · exact ⟨10, by decide, by decide⟩
  · exact ⟨0, by unfold kindN; rw [if_neg h]; rfl, by decide⟩
theorem refget_any (s : ByteArray) (w : World) (hs : s.size ≤ 500000) : Calls Tryd.prog 14 #[.string s] w (Gets w (words s.data.toList)) := by
  by_cases h0 : words s.data.toList = []
  · exact refget_none s w hs h0
  have hp : 0 < (words s.data.toList).length := List.length_pos_iff.2 h0
  have hx : (words s.data.toList)[0]? = some (words s.data.toList)[0] := List.getElem?_eq_getElem hp
  generalize (words s.data.toList)[0] = x at hx
  obtain ⟨k, hk, h10⟩ := kindN_range x
  have hc : k = 0 ∨ k = 1 ∨ k = 2 ∨ k = 3 ∨ k = 4 ∨ k = 5 ∨ k = 6 ∨ k = 7 ∨ k = 8 ∨ k = 9 ∨ k = 10 := by omega
  rcases hc with rfl | rfl | rfl | rfl | rfl | rfl | rfl | rfl | rfl | rfl | rfl
  · exact refget_0 s w hs x hx hk
  · by_cases hl : (words s.data.toList).length ≤ 1
    · exact refget_1b s w hs x hx hl hk
    · exact refget_1a s w hs x hx _ (List.getElem?_eq_getElem (by omega)) hk
  · by_cases hl : (words s.data.toList).length ≤ 2
    · exact refget_2b s w hs x hx hl hk
    · exact refget_2a s w hs x hx _ (List.getElem?_eq_getElem (by omega)) hk
  · exact refget_3 s w hs x hx hk
  · exact refget_4 s w hs x hx hk
  · exact refget_5 s w hs x hx hk
  · exact refget_6 s w hs x hx hk
  · exact refget_7 s w hs x hx hk
  · exact refget_8 s w hs x hx hk
  · exact refget_9 s w hs x hx hk
  · exact refget_10 s w hs x hx hk
end Go.Proofs.YtinjpkbpdhihjaaDoor
