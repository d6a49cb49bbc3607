/- What the code asks of a trade, in its order; how much room there is behind one. -/
import Derived.Test.YtcigbliilmonfaaRows
import Derived.Test.YtcigbliilmonfaaKit
import Derived.Test.YtcigbliilmonfaaGMem
import Derived.Test.YtcigbliilmonfaaCoin
import Derived.Test.YtcigbliilmonfaaGWorld
import Derived.Test.YtcigbliilmonfaaDescMay
import Derived.Test.YtcigbliilmonfaaGRight
import Derived.Test.YtcigbliilmonfaaGAs
import Derived.Test.YtcigbliilmonfaaGiftMath
import Derived.Test.YtcigbliilmonfaaGiftMath2
import Derived.WalkKit
import Derived.ProofKit
import Derived.OpenShut
import Derived.IntWalk
namespace Go.Proofs.Ytcigbliilmonfaa
open Go.ChangeShapes Go.WideShapes Go.ChangeAt Go.RowKit
set_option linter.unusedVariables false
open Go.RowKit
theorem trn_rooms {x : Wd} {i q : Nat} {gs ws : List Nat} (hne : ¬ q = i) (hg : ∀ k ∈ gs, k < x.wher.length ∧ plOf x.wher k = ⟨1, (i : Int)⟩) (hw : ∀ k ∈ ws, k < x.wher.length ∧ plOf x.wher k = ⟨1, (q : Int)⟩) (hnd : (gs ++ ws).Nodup) :
    roomI (trN x i q gs ws) ⟨1, (i : Int)⟩ = roomI x ⟨1, (i : Int)⟩ - ((ws.length : Int) - gs.length) ∧ roomI (trN x i q gs ws) ⟨1, (q : Int)⟩ = roomI x ⟨1, (q : Int)⟩ + ((ws.length : Int) - gs.length) := by
  rw [List.nodup_append] at hnd
  have n1 : ¬ (⟨1, (i : Int)⟩ : Pl) = ⟨1, (q : Int)⟩ := by simp only [Pl.mk.injEq, true_and]; omega
  have n2 : ¬ (⟨1, (q : Int)⟩ : Pl) = ⟨1, (i : Int)⟩ := fun e => n1 e.symm
  obtain ⟨a1, a2⟩ := setL_counts n1 gs x.wher hnd.1 hg
  obtain ⟨b1, b2⟩ := setL_counts n2 ws (setL x.wher gs ⟨1, (q : Int)⟩) hnd.2.1 (fun k hk => by
    refine ⟨by simpa using (hw k hk).1, ?_⟩
    rw [setL_at _ _ _ k (hw k hk).1]
    split
    · rfl
    · exact (hw k hk).2)
  unfold roomI
  show (capOf x.d 1 - (((trP x.wher i q gs ws).count ⟨1, (i : Int)⟩ : Nat) : Int)) = _ ∧ (capOf x.d 1 - (((trP x.wher i q gs ws).count ⟨1, (q : Int)⟩ : Nat) : Int)) = _
  unfold trP
  show _ = capOf x.d 1 - _ - _ ∧ _ = capOf x.d 1 - _ + _
  omega
/-- What is wrong with those who trade. -/
def partE (x : Wd) (i : Nat) (q : Int) (gl wl : List Int) : Int :=
  if inB q x.at_.length = false ∨ (gl ++ wl).all (fun k => inB k x.wher.length) = false then 3 else if q = i then 12 else if roomOf x i = roomOf x q.toNat then 0 else 5
/-- What is wrong with the items. -/
def wareE (x : Wd) (i q : Nat) (gs ws : List Nat) : Int :=
  if ¬ (gs ++ ws).Nodup then 13 else if (hasB x i gs && hasB x q ws) = false then 5 else if roomI x ⟨1, (i : Int)⟩ < (ws.length : Int) - gs.length ∨ roomI x ⟨1, (q : Int)⟩ < -((ws.length : Int) - gs.length) then 9 else 0
/-- A trade as the code asks for it. -/
theorem trade_by (x : Wd) (i : Nat) (q : Int) (gl wl : List Int) (pay fee : Int) :
    (¬ partE x i q gl wl = 0 ∧ tradeW x i q gl wl pay fee = (x, partE x i q gl wl)) ∨
    ∃ (k : Nat) (gs ws : List Nat), q = k ∧ gl = gs.map (fun (k : Nat) => (k : Int)) ∧ wl = ws.map (fun (k : Nat) => (k : Int)) ∧ k < x.at_.length ∧ (∀ n ∈ gs, n < x.wher.length) ∧ (∀ n ∈ ws, n < x.wher.length) ∧ ¬ k = i ∧ partE x i q gl wl = 0 ∧
      ((¬ wareE x i k gs ws = 0 ∧ tradeW x i q gl wl pay fee = (x, wareE x i k gs ws)) ∨
       (wareE x i k gs ws = 0 ∧
        ((¬ swapE (coinOf x i) (coinOf x k) pay fee = 0 ∧ tradeW x i q gl wl pay fee = (x, swapE (coinOf x i) (coinOf x k) pay fee)) ∨
         (swapE (coinOf x i) (coinOf x k) pay fee = 0 ∧ tradeW x i q gl wl pay fee = (trW x i k gs ws (coinOf x i - pay + fee) (coinOf x k - fee + pay), 0))))) := by
  rcases trade_cases x i q gl wl pay fee with ⟨h1, e⟩ | ⟨k, gs, ws, rfl, rfl, rfl, hk, hg, hw, hr⟩
  · left
    have : partE x i q gl wl = 3 := by unfold partE; rw [if_pos h1]
    rw [this, e]
    exact ⟨by decide, rfl⟩
  have h3 : ¬ (inB (k : Int) x.at_.length = false ∨ ((gs.map fun (k : Nat) => (k : Int)) ++ ws.map fun (k : Nat) => (k : Int)).all (fun k => inB k x.wher.length) = false) := by
    rw [← List.map_append]
    simp only [not_or, Bool.not_eq_false, List.all_map, List.all_eq_true, Function.comp_apply, inB_iff]
    refine ⟨by omega, fun n hn => ?_⟩
    rcases List.mem_append.1 hn with hn | hn
    · have := hg n hn; omega
    · have := hw n hn; omega
  rcases hr with ⟨h, e⟩ | ⟨h, hr⟩
  · left
    have : partE x i k (gs.map fun (k : Nat) => (k : Int)) (ws.map fun (k : Nat) => (k : Int)) = 12 := by unfold partE; rw [if_neg h3, if_pos (by omega)]
    rw [this, e]
    exact ⟨by decide, rfl⟩
  rcases hr with ⟨h4, e⟩ | ⟨h4, hr⟩
  · left
    have : partE x i k (gs.map fun (k : Nat) => (k : Int)) (ws.map fun (k : Nat) => (k : Int)) = 5 := by unfold partE; rw [if_neg h3, if_neg (by omega), if_neg (by simpa using h4)]
    rw [this, e]
    exact ⟨by decide, rfl⟩
  right
  refine ⟨k, gs, ws, rfl, rfl, rfl, hk, hg, hw, h, by unfold partE; rw [if_neg h3, if_neg (by omega), if_pos (by simpa using h4)], ?_⟩
  rcases hr with ⟨h5, e⟩ | ⟨h5, hr⟩
  · left
    have : wareE x i k gs ws = 13 := by unfold wareE; rw [if_pos h5]
    rw [this, e]
    exact ⟨by decide, rfl⟩
  rcases hr with ⟨h6, e⟩ | ⟨h6, hr⟩
  · left
    have : wareE x i k gs ws = 5 := by unfold wareE; rw [if_neg (fun h => h h5), if_pos h6]
    rw [this, e]
    exact ⟨by decide, rfl⟩
  have h6' := h6
  rw [Bool.and_eq_true] at h6'
  simp only [hasB, List.all_eq_true, decide_eq_true_eq] at h6'
  obtain ⟨r1, r2⟩ := trn_rooms h (fun n hn => ⟨hg n hn, h6'.1 n hn⟩) (fun n hn => ⟨hw n hn, h6'.2 n hn⟩) h5
  rw [r1, r2] at hr
  have h6n : ¬ (hasB x i gs && hasB x k ws) = false := by rw [h6]; decide
  rcases hr with ⟨h7, e⟩ | ⟨h7, hr⟩
  · left
    have : wareE x i k gs ws = 9 := by unfold wareE; rw [if_neg (fun h => h h5), if_neg h6n, if_pos (by omega)]
    rw [this, e]
    exact ⟨by decide, rfl⟩
  right
  exact ⟨by unfold wareE; rw [if_neg (fun h => h h5), if_neg h6n, if_neg (by omega)], hr⟩
end Go.Proofs.Ytcigbliilmonfaa
