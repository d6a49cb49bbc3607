/- What is traded, one by one; what comes of a trade, case by case: plain mathematics. -/
import Derived.Test.YtcigbliilmonfaaRows
import Derived.Test.YtcigbliilmonfaaKit
import Derived.Test.YtcigbliilmonfaaGMem
import Derived.Test.YtcigbliilmonfaaCoin
import Derived.Test.YtcigbliilmonfaaGWorld
import Derived.Test.YtcigbliilmonfaaDescMay
import Derived.Test.YtcigbliilmonfaaGRight
import Derived.Test.YtcigbliilmonfaaGAs
import Derived.Test.YtcigbliilmonfaaGiftMath
import Derived.WalkKit
import Derived.ProofKit
import Derived.OpenShut
import Derived.IntWalk
namespace Go.Proofs.Ytcigbliilmonfaa
open Go.ChangeShapes Go.WideShapes Go.ChangeAt Go.RowKit
set_option linter.unusedVariables false
open Go.RowKit
/-- What lies where when the first m of all that is named were brought: the gifts first. -/
def stepP (ps : List Pl) (i q : Nat) (gs ws : List Nat) (m : Nat) : List Pl := setL (setL ps (gs.take m) ⟨1, (q : Int)⟩) (ws.take (m - gs.length)) ⟨1, (i : Int)⟩
theorem stepP_zero (ps : List Pl) (i q : Nat) (gs ws : List Nat) : stepP ps i q gs ws 0 = ps := by simp [stepP]
theorem stepP_len (ps : List Pl) (i q : Nat) (gs ws : List Nat) (m : Nat) : (stepP ps i q gs ws m).length = ps.length := by simp [stepP]
theorem stepP_give {ps : List Pl} {i q : Nat} {gs ws : List Nat} {m : Nat} (h : m < gs.length) : stepP ps i q gs ws (m + 1) = (stepP ps i q gs ws m).set gs[m] ⟨1, (q : Int)⟩ := by
  unfold stepP
  rw [show m + 1 - gs.length = 0 by omega, show m - gs.length = 0 by omega, List.take_zero, setL_nil, setL_nil, List.take_succ_eq_append_getElem h, setL_snoc]
theorem stepP_want {ps : List Pl} {i q : Nat} {gs ws : List Nat} {m : Nat} (h : gs.length ≤ m) (h2 : m - gs.length < ws.length) : stepP ps i q gs ws (m + 1) = (stepP ps i q gs ws m).set ws[m - gs.length] ⟨1, (i : Int)⟩ := by
  unfold stepP
  rw [show m + 1 - gs.length = (m - gs.length) + 1 by omega, List.take_succ_eq_append_getElem h2, setL_snoc, List.take_of_length_le (by omega), List.take_of_length_le h]
theorem stepP_all (ps : List Pl) (i q : Nat) (gs ws : List Nat) : stepP ps i q gs ws (gs ++ ws).length = trP ps i q gs ws := by
  unfold stepP trP
  rw [List.length_append, List.take_of_length_le (by omega), List.take_of_length_le (by omega)]
/-- From whom, to whom. -/
theorem both_get {gs ws : List Nat} {m : Nat} (h : m < (gs ++ ws).length) : (m < gs.length ∧ ∃ h2 : m < gs.length, (gs ++ ws)[m] = gs[m]) ∨ (gs.length ≤ m ∧ ∃ h2 : m - gs.length < ws.length, (gs ++ ws)[m] = ws[m - gs.length]) := by
  rw [List.length_append] at h
  by_cases h1 : m < gs.length
  · exact .inl ⟨h1, h1, List.getElem_append_left h1⟩
  · exact .inr ⟨by omega, by omega, List.getElem_append_right (by omega)⟩
/-- Are the first m of all that is named where they should be? -/
def hasN (x : Wd) (i q : Nat) (gs ws : List Nat) (m : Nat) : Bool := hasB x i (gs.take m) && hasB x q (ws.take (m - gs.length))
theorem hasN_zero (x : Wd) (i q : Nat) (gs ws : List Nat) : hasN x i q gs ws 0 = true := by simp [hasN, hasB]
theorem hasN_all (x : Wd) (i q : Nat) (gs ws : List Nat) : hasN x i q gs ws (gs ++ ws).length = (hasB x i gs && hasB x q ws) := by
  unfold hasN
  rw [List.length_append, List.take_of_length_le (by omega), List.take_of_length_le (by omega)]
theorem hasN_give {x : Wd} {i q : Nat} {gs ws : List Nat} {m : Nat} (h : m < gs.length) : hasN x i q gs ws (m + 1) = (hasN x i q gs ws m && decide (plOf x.wher gs[m] = ⟨1, (i : Int)⟩)) := by
  unfold hasN
  rw [show m + 1 - gs.length = 0 by omega, show m - gs.length = 0 by omega, List.take_zero, List.take_succ_eq_append_getElem h]
  simp only [hasB, List.all_append, List.all_cons, List.all_nil, Bool.and_true]
theorem hasN_want {x : Wd} {i q : Nat} {gs ws : List Nat} {m : Nat} (h : gs.length ≤ m) (h2 : m - gs.length < ws.length) : hasN x i q gs ws (m + 1) = (hasN x i q gs ws m && decide (plOf x.wher ws[m - gs.length] = ⟨1, (q : Int)⟩)) := by
  unfold hasN
  rw [show m + 1 - gs.length = (m - gs.length) + 1 by omega, List.take_succ_eq_append_getElem h2, List.take_of_length_le (by omega : gs.length ≤ m + 1), List.take_of_length_le h]
  simp only [hasB, List.all_append, List.all_cons, List.all_nil, Bool.and_true, Bool.and_assoc]
/-- Who isn't where he should be isn't in the end, either. -/
theorem hasN_false {x : Wd} {i q : Nat} {gs ws : List Nat} {m : Nat} (h : hasN x i q gs ws m = false) : hasB x i gs = false ∨ hasB x q ws = false := by
  unfold hasN at h
  rw [Bool.and_eq_false_iff] at h
  have sub : ∀ (p : Nat) (l : List Nat) (n : Nat), hasB x p (l.take n) = false → hasB x p l = false := fun p l n h => by
    rw [Bool.eq_false_iff] at h ⊢
    intro h2
    apply h
    unfold hasB at h2 ⊢
    rw [List.all_eq_true] at h2 ⊢
    exact fun k hk => h2 k (List.mem_of_mem_take hk)
  exact h.imp (sub _ _ _) (sub _ _ _)
/-- Twice. -/
theorem nodup_more {l : List Nat} {m : Nat} (h : m < l.length) : (l.take (m + 1)).Nodup ↔ (l.take m).Nodup ∧ ∀ (k : Nat) (hk : k < l.length), k < m → ¬ l[m] = l[k] := by
  rw [List.take_succ_eq_append_getElem h, List.nodup_append]
  constructor
  · rintro ⟨h1, _, h3⟩
    refine ⟨h1, fun k hk hkm e => ?_⟩
    exact h3 l[k] (List.mem_take_iff_getElem.2 ⟨k, by omega, rfl⟩) l[m] (by simp) e.symm
  · rintro ⟨h1, h2⟩
    refine ⟨h1, by simp, fun a ha b hb e => ?_⟩
    obtain ⟨k, hk, rfl⟩ := List.mem_take_iff_getElem.1 ha
    rw [List.mem_singleton] at hb
    subst hb
    exact h2 k (by omega) (by omega) e.symm
theorem nodup_not {l : List Nat} {m k : Nat} (hm : m < l.length) (hk : k < m) (e : l[m] = l[k]'(by omega)) : ¬ l.Nodup := fun h => by
  have h2 : (l.take (m + 1)).Nodup := h.sublist (List.take_sublist _ _)
  exact ((nodup_more hm).1 h2).2 k (by omega) hk e
/-- What comes of a trade. -/
theorem trade_cases (x : Wd) (i : Nat) (q : Int) (gl wl : List Int) (pay fee : Int) :
    ((inB q x.at_.length = false ∨ (gl ++ wl).all (fun k => inB k x.wher.length) = false) ∧ tradeW x i q gl wl pay fee = (x, 3)) ∨
    ∃ (k : Nat) (gs ws : List Nat), q = k ∧ gl = gs.map (fun (k : Nat) => (k : Int)) ∧ wl = ws.map (fun (k : Nat) => (k : Int)) ∧ k < x.at_.length ∧ (∀ n ∈ gs, n < x.wher.length) ∧ (∀ n ∈ ws, n < x.wher.length) ∧
      ((k = i ∧ tradeW x i q gl wl pay fee = (x, 12)) ∨
       (¬ k = i ∧
        ((¬ roomOf x i = roomOf x k ∧ tradeW x i q gl wl pay fee = (x, 5)) ∨
         (roomOf x i = roomOf x k ∧
          ((¬ (gs ++ ws).Nodup ∧ tradeW x i q gl wl pay fee = (x, 13)) ∨
           ((gs ++ ws).Nodup ∧
            (((hasB x i gs && hasB x k ws) = false ∧ tradeW x i q gl wl pay fee = (x, 5)) ∨
             ((hasB x i gs && hasB x k ws) = true ∧
              (((roomI (trN x i k gs ws) ⟨1, (i : Int)⟩ < 0 ∨ roomI (trN x i k gs ws) ⟨1, (k : Int)⟩ < 0) ∧ tradeW x i q gl wl pay fee = (x, 9)) ∨
               (¬ (roomI (trN x i k gs ws) ⟨1, (i : Int)⟩ < 0 ∨ roomI (trN x i k gs ws) ⟨1, (k : Int)⟩ < 0) ∧
                ((¬ swapE (coinOf x i) (coinOf x k) pay fee = 0 ∧ tradeW x i q gl wl pay fee = (x, swapE (coinOf x i) (coinOf x k) pay fee)) ∨
                 (swapE (coinOf x i) (coinOf x k) pay fee = 0 ∧ tradeW x i q gl wl pay fee = (trW x i k gs ws (coinOf x i - pay + fee) (coinOf x k - fee + pay), 0))))))))))))) := by
  by_cases h1 : inB q x.at_.length = false
  · exact .inl ⟨.inl h1, by unfold tradeW; rw [if_pos h1]⟩
  by_cases h2 : (gl ++ wl).all (fun k => inB k x.wher.length) = false
  · exact .inl ⟨.inr h2, by unfold tradeW; rw [if_neg h1, if_pos h2]⟩
  right
  have h2' := h2
  rw [Bool.not_eq_false, List.all_append, Bool.and_eq_true] at h2'
  obtain ⟨gs, rfl, hg⟩ := nats_of h2'.1
  obtain ⟨ws, rfl, hw⟩ := nats_of h2'.2
  have h1' := h1
  rw [Bool.not_eq_false, inB_iff] at h1'
  obtain ⟨k, rfl⟩ : ∃ k : Nat, q = k := ⟨q.toNat, by omega⟩
  refine ⟨k, gs, ws, rfl, rfl, rfl, by omega, hg, hw, ?_⟩
  unfold tradeW
  rw [if_neg h1, if_neg h2]
  simp only [Int.toNat_natCast, toNats, Int.ofNat_inj]
  by_cases h3 : k = i
  · exact .inl ⟨h3, by rw [if_pos h3]⟩
  refine .inr ⟨h3, ?_⟩
  rw [if_neg h3]
  by_cases h4 : roomOf x i = roomOf x k
  · refine .inr ⟨h4, ?_⟩
    rw [if_neg (fun h => h h4)]
    rw [← List.map_append]
    simp only [nodup_nats]
    by_cases h5 : (gs ++ ws).Nodup
    · refine .inr ⟨h5, ?_⟩
      rw [if_neg (fun h => h h5)]
      by_cases h6 : hasB x i gs = false ∨ hasB x k ws = false
      · exact .inl ⟨by rw [Bool.and_eq_false_iff]; exact h6, by rw [if_pos h6]⟩
      · refine .inr ⟨by simpa [not_or] using h6, ?_⟩
        rw [if_neg h6]
        by_cases h7 : roomI (trN x i k gs ws) ⟨1, (i : Int)⟩ < 0 ∨ roomI (trN x i k gs ws) ⟨1, (k : Int)⟩ < 0
        · exact .inl ⟨h7, by rw [if_pos h7]⟩
        · refine .inr ⟨h7, ?_⟩
          rw [if_neg h7]
          by_cases h8 : swapE (coinOf x i) (coinOf x k) pay fee = 0
          · refine .inr ⟨h8, ?_⟩
            rw [if_neg (fun h => h h8)]
            unfold swapA swapB
            rw [if_pos h8, if_pos h8]
          · exact .inl ⟨h8, by rw [if_pos h8]⟩
    · exact .inl ⟨h5, by rw [if_pos h5]⟩
  · exact .inl ⟨h4, by rw [if_pos h4]⟩
theorem trade_shape (x : Wd) (i : Nat) (q : Int) (gl wl : List Int) (pay fee : Int) : Shape x (tradeW x i q gl wl pay fee).1 := by
  unfold tradeW
  repeat' split
  all_goals first | exact Shape.refl x | exact trW_shape _ _ _ _ _ _ _
/-- What comes of giving. -/
theorem give_cases (x : Wd) (i : Nat) (item q : Int) :
    ((inB item x.wher.length = false ∨ inB q x.at_.length = false) ∧ giveW x i item q = (x, 3)) ∨
    ∃ k c : Nat, item = k ∧ q = c ∧ k < x.wher.length ∧ c < x.at_.length ∧
      ((c = i ∧ giveW x i item q = (x, 12)) ∨
       (¬ c = i ∧
        (((¬ roomOf x i = roomOf x c ∨ ¬ plOf x.wher k = ⟨1, (i : Int)⟩) ∧ giveW x i item q = (x, 5)) ∨
         ((roomOf x i = roomOf x c ∧ plOf x.wher k = ⟨1, (i : Int)⟩) ∧
          ((roomI x ⟨1, (c : Int)⟩ = 0 ∧ giveW x i item q = (x, 9)) ∨ (¬ roomI x ⟨1, (c : Int)⟩ = 0 ∧ giveW x i item q = (putW x k ⟨1, (c : Int)⟩, 0))))))) := by
  unfold giveW
  by_cases h1 : inB item x.wher.length = false ∨ inB q x.at_.length = false
  · exact .inl ⟨h1, by rw [if_pos h1]⟩
  right
  rw [if_neg h1]
  simp only [not_or, Bool.not_eq_false, inB_iff] at h1
  refine ⟨item.toNat, q.toNat, by omega, by omega, by omega, by omega, ?_⟩
  by_cases h2 : q = i
  · exact .inl ⟨by omega, by rw [if_pos h2]⟩
  refine .inr ⟨by omega, ?_⟩
  rw [if_neg h2]
  by_cases h3 : ¬ roomOf x i = roomOf x q.toNat ∨ ¬ plOf x.wher item.toNat = ⟨1, (i : Int)⟩
  · exact .inl ⟨h3, by rw [if_pos h3]⟩
  refine .inr ⟨by simpa [not_or] using h3, ?_⟩
  rw [if_neg h3]
  by_cases h4 : roomI x ⟨1, (q.toNat : Int)⟩ = 0
  · exact .inl ⟨h4, by rw [if_pos h4]⟩
  · exact .inr ⟨h4, by rw [if_neg h4]⟩
theorem give_shape (x : Wd) (i : Nat) (item q : Int) : Shape x (giveW x i item q).1 := by
  unfold giveW
  repeat' split
  all_goals first | exact Shape.refl x | exact putW_shape _ _ _
/-- A trade of nothing for nothing. -/
theorem trade_none {x : Wd} (hx : rightW x = true) {i k : Nat} (hi : i < x.at_.length) (hk : k < x.at_.length) :
    (tradeW x i k [] [] 0 0).1 = x ∧ ((tradeW x i k [] [] 0 0).2 = 0 ↔ ¬ i = k ∧ roomOf x i = roomOf x k) := by
  have hl := right_lens hx
  have hin := right_in hx
  have li : i < x.coins.length := by rw [hl.2.2.1]; exact hi
  have lq : k < x.coins.length := by rw [hl.2.2.1]; exact hk
  have hci : coinOf x i = x.coins[i] := by simp [coinOf, List.getD, List.getElem?_eq_getElem li]
  have hcq : coinOf x k = x.coins[k] := by simp [coinOf, List.getD, List.getElem?_eq_getElem lq]
  have bi := hin.2.1 _ (List.getElem_mem li)
  have bq := hin.2.1 _ (List.getElem_mem lq)
  have hz : swapE (coinOf x i) (coinOf x k) 0 0 = 0 := swap_zero.2 (by omega)
  have n1 := room_nn hx (f := ⟨1, (i : Int)⟩) (by simp)
  have n2 := room_nn hx (f := ⟨1, (k : Int)⟩) (by simp)
  have eW : trW x i k [] [] (coinOf x i - 0 + 0) (coinOf x k - 0 + 0) = x := by
    show Wd.mk x.d x.at_ ((x.coins.set i _).set k _) x.wher = x
    rw [show coinOf x i - 0 + 0 = x.coins[i] by omega, show coinOf x k - 0 + 0 = x.coins[k] by omega, List.set_getElem_self, List.set_getElem_self]
  rcases trade_cases x i (k : Int) [] [] 0 0 with ⟨h1, e⟩ | ⟨k', gs, ws, h1, h2, h3, -, -, -, hr⟩
  · exfalso
    rcases h1 with h1 | h1
    · simp [inB, hk] at h1
    · simp at h1
  obtain rfl : k = k' := by omega
  obtain rfl : gs = [] := by simpa using h2.symm
  obtain rfl : ws = [] := by simpa using h3.symm
  have hN : trN x i k [] [] = x := rfl
  rw [hN] at hr
  rcases hr with ⟨h, e⟩ | ⟨h, ⟨h4, e⟩ | ⟨h4, ⟨h5, e⟩ | ⟨h5, ⟨h6, e⟩ | ⟨h6, ⟨h7, e⟩ | ⟨h7, ⟨h8, e⟩ | ⟨h8, e⟩⟩⟩⟩⟩⟩
  · rw [e]; exact ⟨rfl, by simp; omega⟩
  · rw [e]; exact ⟨rfl, by simp; intro _; exact h4⟩
  · exact absurd (by simp) h5
  · simp [hasB] at h6
  · omega
  · exact absurd hz h8
  · rw [e]; exact ⟨eW, by simp; exact ⟨fun h9 => h h9.symm, h4⟩⟩
/-- Coins alone. -/
theorem trade_pay {x : Wd} (hx : rightW x = true) {i k : Nat} (hi : i < x.at_.length) (hk : k < x.at_.length) (hne : ¬ i = k) (hr : roomOf x i = roomOf x k) (pay : Int) (hp : 0 ≤ pay) :
    tradeW x i k [] [] pay 0 = if coinOf x i < pay then (x, 10) else if 1073741824 < coinOf x k + pay then (x, 11) else (trW x i k [] [] (coinOf x i - pay) (coinOf x k + pay), 0) := by
  have hl := right_lens hx
  have hin := right_in hx
  have li : i < x.coins.length := by rw [hl.2.2.1]; exact hi
  have lq : k < x.coins.length := by rw [hl.2.2.1]; exact hk
  have hci : coinOf x i = x.coins[i] := by simp [coinOf, List.getD, List.getElem?_eq_getElem li]
  have hcq : coinOf x k = x.coins[k] := by simp [coinOf, List.getD, List.getElem?_eq_getElem lq]
  have bi := hin.2.1 _ (List.getElem_mem li)
  have bq := hin.2.1 _ (List.getElem_mem lq)
  rw [← hci] at bi
  rw [← hcq] at bq
  have n1 := room_nn hx (f := ⟨1, (i : Int)⟩) (by simp)
  have n2 := room_nn hx (f := ⟨1, (k : Int)⟩) (by simp)
  have hE : swapE (coinOf x i) (coinOf x k) pay 0 = if coinOf x i < pay then 10 else if 1073741824 < coinOf x k + pay then 11 else 0 := by
    unfold swapE
    rw [if_neg (by omega)]
    by_cases h1 : coinOf x i < pay
    · rw [if_pos (.inl h1), if_pos h1]
    · rw [if_neg (by omega), if_neg h1]
      by_cases h2 : 1073741824 < coinOf x k + pay
      · rw [if_neg (by omega), if_pos h2]
      · rw [if_pos (by omega), if_neg h2]
  rcases trade_cases x i (k : Int) [] [] pay 0 with ⟨h1, e⟩ | ⟨k', gs, ws, h1, h2, h3, -, -, -, hq⟩
  · exfalso
    rcases h1 with h1 | h1
    · simp [inB, hk] at h1
    · simp at h1
  obtain rfl : k = k' := by omega
  obtain rfl : gs = [] := by simpa using h2.symm
  obtain rfl : ws = [] := by simpa using h3.symm
  have hN : trN x i k [] [] = x := rfl
  rw [hN, hE] at hq
  rcases hq with ⟨h, e⟩ | ⟨h, ⟨h4, e⟩ | ⟨h4, ⟨h5, e⟩ | ⟨h5, ⟨h6, e⟩ | ⟨h6, ⟨h7, e⟩ | ⟨h7, ⟨h8, e⟩ | ⟨h8, e⟩⟩⟩⟩⟩⟩
  · exact absurd h.symm hne
  · exact absurd hr h4
  · exact absurd (by simp) h5
  · simp [hasB] at h6
  · omega
  · rw [e]
    by_cases g1 : coinOf x i < pay
    · rw [if_pos g1, if_pos g1]
    · rw [if_neg g1, if_neg g1] at *
      by_cases g2 : 1073741824 < coinOf x k + pay
      · rw [if_pos g2, if_pos g2]
      · rw [if_neg g2] at h8; exact absurd rfl h8
  · rw [e]
    by_cases g1 : coinOf x i < pay
    · rw [if_pos g1] at h8; exact absurd h8 (by decide)
    · rw [if_neg g1] at h8 ⊢
      by_cases g2 : 1073741824 < coinOf x k + pay
      · rw [if_pos g2] at h8; exact absurd h8 (by decide)
      · rw [if_neg g2, show coinOf x k - 0 + pay = coinOf x k + pay by omega, show coinOf x i - pay + 0 = coinOf x i - pay by omega]
end Go.Proofs.Ytcigbliilmonfaa
