import Derived.Test.YtinjpkbpdhihjaaDoorRows
import Derived.Test.YtinjpkbpdhihjaaDoorKit
import Derived.Test.YtinjpkbpdhihjaaDoorStrs
import Derived.Test.YtinjpkbpdhihjaaDoorJMath
import Derived.Test.YtinjpkbpdhihjaaDoorJCmd
import Derived.Test.YtinjpkbpdhihjaaDoorJTab
import Derived.Deep.QuietTactic
import Derived.BigQuiet
import Derived.RegionTactic
import Derived.BigRegion
import Derived.WalkKit
import Derived.ProofKit
import Derived.OpenShut
import Derived.IntWalk
/- cmd: own: a command with the fields alone that its kind has. -/
namespace Go.Proofs.YtinjpkbpdhihjaaDoor
open Go.ChangeShapes Go.WideShapes Go.ChangeAt Go.RowKit
set_option linter.unusedVariables false
open Go.RowKit
/-- What a call hands back: a command, in memory of which all that was there is as it was. -/
def GivesCmd (c : Cm) (w : World) (e : Ending) (w' : World) : Prop :=
  ∃ ga gc wa wc, e = .returned (.agg #[.int .i64 c.kind, .int .i64 c.dir, .int .i64 c.item, .int .i64 c.box, .int .i64 c.who, .slice ga c.gives.length gc, .int .i64 c.pay, .slice wa c.wants.length wc, .int .i64 c.fee]) ∧ IntsAt w' ga c.gives ∧ IntsAt w' wa c.wants ∧ Below w.heap.size w w'


set_option maxRecDepth 100000 in
theorem own_1 (d i b h p f : Int) (gs ws : List Int) (ga wa : Option Addr) (gc wc : Nat) (w : World) :
    Calls Tryd.prog 39 #[.agg #[.int .i64 1, .int .i64 d, .int .i64 i, .int .i64 b, .int .i64 h, .slice ga gs.length gc, .int .i64 p, .slice wa ws.length wc, .int .i64 f]] w fun e w' => e = .returned (.agg #[.int .i64 1, .int .i64 d, .int .i64 0, .int .i64 0, .int .i64 0, .slice none 0 0, .int .i64 0, .slice none 0 0, .int .i64 0]) ∧ Below w.heap.size w w' := by
  go_enter Tryd.func39, Tryd.ntmps39
  go_wp2_with fail
  refine bodyPost_ret (v := .agg #[.int .i64 1, .int .i64 d, .int .i64 0, .int .i64 0, .int .i64 0, .slice none 0 0, .int .i64 0, .slice none 0 0, .int .i64 0]) (by simp [results, Tryd.results39, go_sem]) rfl ⟨rfl, ?_⟩
  repeat (first | exact Below.refl _ _ | refine Below.drew ?_ | refine Below.setCell ?_ (by simp) _ | refine Below.alloc ?_ (by first | (simp; done) | (simp; omega)) _)
set_option maxRecDepth 100000 in
theorem own_2 (d i b h p f : Int) (gs ws : List Int) (ga wa : Option Addr) (gc wc : Nat) (w : World) :
    Calls Tryd.prog 39 #[.agg #[.int .i64 2, .int .i64 d, .int .i64 i, .int .i64 b, .int .i64 h, .slice ga gs.length gc, .int .i64 p, .slice wa ws.length wc, .int .i64 f]] w fun e w' => e = .returned (.agg #[.int .i64 2, .int .i64 d, .int .i64 0, .int .i64 0, .int .i64 h, .slice none 0 0, .int .i64 0, .slice none 0 0, .int .i64 0]) ∧ Below w.heap.size w w' := by
  go_enter Tryd.func39, Tryd.ntmps39
  go_wp2_with fail
  go_region
  go_wp2_with fail
  refine bodyPost_ret (v := .agg #[.int .i64 2, .int .i64 d, .int .i64 0, .int .i64 0, .int .i64 h, .slice none 0 0, .int .i64 0, .slice none 0 0, .int .i64 0]) (by simp [results, Tryd.results39, go_sem]) rfl ⟨rfl, ?_⟩
  repeat (first | exact Below.refl _ _ | refine Below.drew ?_ | refine Below.setCell ?_ (by simp) _ | refine Below.alloc ?_ (by first | (simp; done) | (simp; omega)) _)
set_option maxRecDepth 100000 in
theorem own_3 (d i b h p f : Int) (gs ws : List Int) (ga wa : Option Addr) (gc wc : Nat) (w : World) :
    Calls Tryd.prog 39 #[.agg #[.int .i64 3, .int .i64 d, .int .i64 i, .int .i64 b, .int .i64 h, .slice ga gs.length gc, .int .i64 p, .slice wa ws.length wc, .int .i64 f]] w fun e w' => e = .returned (.agg #[.int .i64 3, .int .i64 0, .int .i64 i, .int .i64 0, .int .i64 0, .slice none 0 0, .int .i64 0, .slice none 0 0, .int .i64 0]) ∧ Below w.heap.size w w' := by
  go_enter Tryd.func39, Tryd.ntmps39
  go_wp2_with fail
  refine bodyPost_ret (v := .agg #[.int .i64 3, .int .i64 0, .int .i64 i, .int .i64 0, .int .i64 0, .slice none 0 0, .int .i64 0, .slice none 0 0, .int .i64 0]) (by simp [results, Tryd.results39, go_sem]) rfl ⟨rfl, ?_⟩
  repeat (first | exact Below.refl _ _ | refine Below.drew ?_ | refine Below.setCell ?_ (by simp) _ | refine Below.alloc ?_ (by first | (simp; done) | (simp; omega)) _)
set_option maxRecDepth 100000 in
theorem own_4 (d i b h p f : Int) (gs ws : List Int) (ga wa : Option Addr) (gc wc : Nat) (w : World) :
    Calls Tryd.prog 39 #[.agg #[.int .i64 4, .int .i64 d, .int .i64 i, .int .i64 b, .int .i64 h, .slice ga gs.length gc, .int .i64 p, .slice wa ws.length wc, .int .i64 f]] w fun e w' => e = .returned (.agg #[.int .i64 4, .int .i64 0, .int .i64 i, .int .i64 0, .int .i64 0, .slice none 0 0, .int .i64 0, .slice none 0 0, .int .i64 0]) ∧ Below w.heap.size w w' := by
  go_enter Tryd.func39, Tryd.ntmps39
  go_wp2_with fail
  refine bodyPost_ret (v := .agg #[.int .i64 4, .int .i64 0, .int .i64 i, .int .i64 0, .int .i64 0, .slice none 0 0, .int .i64 0, .slice none 0 0, .int .i64 0]) (by simp [results, Tryd.results39, go_sem]) rfl ⟨rfl, ?_⟩
  repeat (first | exact Below.refl _ _ | refine Below.drew ?_ | refine Below.setCell ?_ (by simp) _ | refine Below.alloc ?_ (by first | (simp; done) | (simp; omega)) _)
set_option maxRecDepth 100000 in
theorem own_5 (d i b h p f : Int) (gs ws : List Int) (ga wa : Option Addr) (gc wc : Nat) (w : World) :
    Calls Tryd.prog 39 #[.agg #[.int .i64 5, .int .i64 d, .int .i64 i, .int .i64 b, .int .i64 h, .slice ga gs.length gc, .int .i64 p, .slice wa ws.length wc, .int .i64 f]] w fun e w' => e = .returned (.agg #[.int .i64 5, .int .i64 0, .int .i64 i, .int .i64 b, .int .i64 0, .slice none 0 0, .int .i64 0, .slice none 0 0, .int .i64 0]) ∧ Below w.heap.size w w' := by
  go_enter Tryd.func39, Tryd.ntmps39
  go_wp2_with fail
  go_region
  go_wp2_with fail
  refine bodyPost_ret (v := .agg #[.int .i64 5, .int .i64 0, .int .i64 i, .int .i64 b, .int .i64 0, .slice none 0 0, .int .i64 0, .slice none 0 0, .int .i64 0]) (by simp [results, Tryd.results39, go_sem]) rfl ⟨rfl, ?_⟩
  repeat (first | exact Below.refl _ _ | refine Below.drew ?_ | refine Below.setCell ?_ (by simp) _ | refine Below.alloc ?_ (by first | (simp; done) | (simp; omega)) _)
set_option maxRecDepth 100000 in
theorem own_6 (d i b h p f : Int) (gs ws : List Int) (ga wa : Option Addr) (gc wc : Nat) (w : World) :
    Calls Tryd.prog 39 #[.agg #[.int .i64 6, .int .i64 d, .int .i64 i, .int .i64 b, .int .i64 h, .slice ga gs.length gc, .int .i64 p, .slice wa ws.length wc, .int .i64 f]] w fun e w' => e = .returned (.agg #[.int .i64 6, .int .i64 0, .int .i64 i, .int .i64 b, .int .i64 0, .slice none 0 0, .int .i64 0, .slice none 0 0, .int .i64 0]) ∧ Below w.heap.size w w' := by
  go_enter Tryd.func39, Tryd.ntmps39
  go_wp2_with fail
  go_region
  go_wp2_with fail
  refine bodyPost_ret (v := .agg #[.int .i64 6, .int .i64 0, .int .i64 i, .int .i64 b, .int .i64 0, .slice none 0 0, .int .i64 0, .slice none 0 0, .int .i64 0]) (by simp [results, Tryd.results39, go_sem]) rfl ⟨rfl, ?_⟩
  repeat (first | exact Below.refl _ _ | refine Below.drew ?_ | refine Below.setCell ?_ (by simp) _ | refine Below.alloc ?_ (by first | (simp; done) | (simp; omega)) _)
set_option maxRecDepth 100000 in
theorem own_7 (d i b h p f : Int) (gs ws : List Int) (ga wa : Option Addr) (gc wc : Nat) (w : World) :
    Calls Tryd.prog 39 #[.agg #[.int .i64 7, .int .i64 d, .int .i64 i, .int .i64 b, .int .i64 h, .slice ga gs.length gc, .int .i64 p, .slice wa ws.length wc, .int .i64 f]] w fun e w' => e = .returned (.agg #[.int .i64 7, .int .i64 0, .int .i64 i, .int .i64 0, .int .i64 h, .slice none 0 0, .int .i64 0, .slice none 0 0, .int .i64 0]) ∧ Below w.heap.size w w' := by
  go_enter Tryd.func39, Tryd.ntmps39
  go_wp2_with fail
  go_region
  go_wp2_with fail
  refine bodyPost_ret (v := .agg #[.int .i64 7, .int .i64 0, .int .i64 i, .int .i64 0, .int .i64 h, .slice none 0 0, .int .i64 0, .slice none 0 0, .int .i64 0]) (by simp [results, Tryd.results39, go_sem]) rfl ⟨rfl, ?_⟩
  repeat (first | exact Below.refl _ _ | refine Below.drew ?_ | refine Below.setCell ?_ (by simp) _ | refine Below.alloc ?_ (by first | (simp; done) | (simp; omega)) _)
set_option maxRecDepth 100000 in
theorem own_8 (d i b h p f : Int) (gs ws : List Int) (ga wa : Option Addr) (gc wc : Nat) (w : World) :
    Calls Tryd.prog 39 #[.agg #[.int .i64 8, .int .i64 d, .int .i64 i, .int .i64 b, .int .i64 h, .slice ga gs.length gc, .int .i64 p, .slice wa ws.length wc, .int .i64 f]] w fun e w' => e = .returned (.agg #[.int .i64 8, .int .i64 0, .int .i64 0, .int .i64 0, .int .i64 h, .slice ga gs.length gc, .int .i64 p, .slice wa ws.length wc, .int .i64 f]) ∧ Below w.heap.size w w' := by
  go_enter Tryd.func39, Tryd.ntmps39
  go_wp2_with fail
  go_region
  go_wp2_with fail
  go_region
  go_wp2_with fail
  refine bodyPost_ret (v := .agg #[.int .i64 8, .int .i64 0, .int .i64 0, .int .i64 0, .int .i64 h, .slice ga gs.length gc, .int .i64 p, .slice wa ws.length wc, .int .i64 f]) (by simp [results, Tryd.results39, go_sem]) rfl ⟨rfl, ?_⟩
  repeat (first | exact Below.refl _ _ | refine Below.drew ?_ | refine Below.setCell ?_ (by simp) _ | refine Below.alloc ?_ (by first | (simp; done) | (simp; omega)) _)
set_option maxRecDepth 100000 in
theorem own_9 (d i b h p f : Int) (gs ws : List Int) (ga wa : Option Addr) (gc wc : Nat) (w : World) :
    Calls Tryd.prog 39 #[.agg #[.int .i64 9, .int .i64 d, .int .i64 i, .int .i64 b, .int .i64 h, .slice ga gs.length gc, .int .i64 p, .slice wa ws.length wc, .int .i64 f]] w fun e w' => e = .returned (.agg #[.int .i64 9, .int .i64 0, .int .i64 0, .int .i64 0, .int .i64 0, .slice none 0 0, .int .i64 0, .slice none 0 0, .int .i64 0]) ∧ Below w.heap.size w w' := by
  go_enter Tryd.func39, Tryd.ntmps39
  go_wp2_with fail
  refine bodyPost_ret (v := .agg #[.int .i64 9, .int .i64 0, .int .i64 0, .int .i64 0, .int .i64 0, .slice none 0 0, .int .i64 0, .slice none 0 0, .int .i64 0]) (by simp [results, Tryd.results39, go_sem]) rfl ⟨rfl, ?_⟩
  repeat (first | exact Below.refl _ _ | refine Below.drew ?_ | refine Below.setCell ?_ (by simp) _ | refine Below.alloc ?_ (by first | (simp; done) | (simp; omega)) _)
set_option maxRecDepth 100000 in
theorem own_10 (d i b h p f : Int) (gs ws : List Int) (ga wa : Option Addr) (gc wc : Nat) (w : World) :
    Calls Tryd.prog 39 #[.agg #[.int .i64 10, .int .i64 d, .int .i64 i, .int .i64 b, .int .i64 h, .slice ga gs.length gc, .int .i64 p, .slice wa ws.length wc, .int .i64 f]] w fun e w' => e = .returned (.agg #[.int .i64 10, .int .i64 0, .int .i64 0, .int .i64 0, .int .i64 0, .slice none 0 0, .int .i64 0, .slice none 0 0, .int .i64 0]) ∧ Below w.heap.size w w' := by
  go_enter Tryd.func39, Tryd.ntmps39
  go_wp2_with fail
  refine bodyPost_ret (v := .agg #[.int .i64 10, .int .i64 0, .int .i64 0, .int .i64 0, .int .i64 0, .slice none 0 0, .int .i64 0, .slice none 0 0, .int .i64 0]) (by simp [results, Tryd.results39, go_sem]) rfl ⟨rfl, ?_⟩
  repeat (first | exact Below.refl _ _ | refine Below.drew ?_ | refine Below.setCell ?_ (by simp) _ | refine Below.alloc ?_ (by first | (simp; done) | (simp; omega)) _)
end Go.Proofs.YtinjpkbpdhihjaaDoor
