/- MutexMany: whatever sessions take and give back, from free locks on. -/
import Derived.Test.YtbbjgkinkkgjoaaMutexArg
namespace Go.Proofs.Ytbbjgkinkkgjoaa
open Go.ChangeShapes Go.WideShapes Go.ChangeAt Go.RowKit
open Lib (hid)
set_option linter.unusedVariables false
set_option maxRecDepth 100000
open Go.RowKit Go Go.Joins

theorem LkAt.far {W W' : World} {a : Option Addr} {cap q : Nat} {l : List Int} (h : LkAt W a cap l) (hg : W.grownBy W' (some q)) (hn : ∀ p, a = some p → p.block ≠ q) : LkAt W' a cap l := by
 refine ⟨⟨h.1.1, ?_⟩, h.2⟩
 rcases h.1.2 with h2 | ⟨b2, o2, rfl, hb, hc⟩
 ·exact .inl h2
 ·have hbl := hg.block b2 hb (fun e => hn _ rfl (Option.some.inj e))
  exact .inr ⟨b2, o2, rfl, Nat.lt_of_lt_of_le hb hg.size, fun i hi => by rw [← hc i hi]; simp only [World.cell?, hbl]⟩
theorem one_grown (W : World) (m i : Nat) (v : Value) : W.grownBy (W.setCell ⟨m, i, none⟩ v) (some m) :=
 ⟨rfl, rfl, rfl, by simp [World.setCell], fun b _ hne => Below.heap_setCell W _ v b (fun e => hne (by rw [e]))⟩
theorem cut_to (g n c k : Nat) (hk : k ≤ c) (W : World) : (Instr.slice 22 (.slice (some ⟨g, 0, none⟩) n c) none (some (.int .i64 (k : Int))) none).run Try.prog W = .ok (.slice (some ⟨g, 0, none⟩) k c) W := by
 obtain ⟨i0, hi0, hz0, hz1, hz2⟩ := info_parts int_info
 simp [Instr.slice, run_underlying Try.underlying22, Instr.sliceBounds, run_sliceBound, sizeOf, typeInfo, hi0, show (k : Int) ≤ (c : Int) by omega]
 intro; simp [Addr.add]
/-- What each has, as the law keeps it. -/
def Kept (n : Nat) (xs : List Int) (hs : Array Value) : Prop := xs.length = n ∧ Locks xs ∧ hs.size = 20 ∧ ∀ j (h : j < xs.length), hs[j]? = some (.int .i64 xs[j])
theorem Kept.start (n : Nat) (h : n ≤ 19) : Kept n (List.replicate n 0) (zc 20) :=
 ⟨by simp, ⟨by simp; omega, fun x hx => by rw [List.eq_of_mem_replicate hx]; decide⟩, by simp [zc], fun j hj => by rw [zc_get (by simp at hj; omega)]; simp⟩
theorem Kept.set {n : Nat} {xs : List Int} {hs : Array Value} (h : Kept n xs hs) (k : Nat) {x : Int} (h0 : 0 ≤ x) (h1 : x ≤ 9223372036854775807) (hn : n ≤ 19) : Kept n (xs.set k x) (hs.setIfInBounds k (.int .i64 x)) := by
 refine ⟨by simpa using h.1, set_locks h.2.1 k h0 h1, by simpa using h.2.2.1, fun j hj => ?_⟩
 have hj2 : j < xs.length := by simpa using hj
 rw [Array.getElem?_setIfInBounds, List.getElem_set]
 have h20 := h.2.2.1
 have hl := h.1
 by_cases e : k = j
 ·subst e; simp; omega
 ·simp [e, h.2.2.2 j hj2]
theorem Kept.at_ {n g : Nat} {xs : List Int} {hs : Array Value} {W : World} (h : Kept n xs hs) (hn : n ≤ 19) (hb : Blk W g 3 hs) : LkAt W (some ⟨g, 0, none⟩) 20 xs := by
 refine ⟨⟨by have := h.1; unfold maxLen; omega, .inr ⟨g, 0, rfl, hb.lt, fun i hi => by rw [Nat.zero_add, hb.cell, h.2.2.2 i hi]⟩⟩, by have := h.1; omega, by unfold maxLen; decide⟩
theorem free_in {n k : Nat} {xs : List Int} (hl : xs.length = n) (h : k < n) : freeB xs (k : Int) = (xs.getD k 0 == 0) := by
 subst hl; simp [freeB, plB_of h, lockN_at h, h]
theorem has_in {n k : Nat} {xs : List Int} {s : Int} (hl : xs.length = n) (h : k < n) : hasB xs (k : Int) s = (xs.getD k 0 == s + 1) := by
 subst hl; simp [hasB, plB_of h, lockN_at h, h]
theorem free_out {n k : Nat} {xs : List Int} (hl : xs.length = n) (h : ¬ k < n) : freeB xs (k : Int) = false := by
 have : ¬ (k : Int) < (n : Int) := by omega
 simp [freeB, plB, hl, this]
theorem has_out {n k : Nat} {xs : List Int} {s : Int} (hl : xs.length = n) (h : ¬ k < n) : hasB xs (k : Int) s = false := by
 have : ¬ (k : Int) < (n : Int) := by omega
 simp [hasB, plB, hl, this]
theorem Kept.cell {n k g : Nat} {xs : List Int} {hs : Array Value} {W : World} (h : Kept n xs hs) (hk : k < n) (hb : Blk W g 3 hs) : W.cell? ⟨g, k, none⟩ = some (.int .i64 (xs.getD k 0)) := by
 have hk2 : k < xs.length := by have := h.1; omega
 rw [hb.cell, h.2.2.2 k hk2]; simp [List.getD, hk2]
theorem apart_of {a g : Option Addr} {q : Nat} {n : Nat} {ok : Bool} {c d : Nat} (h : (g = a ∧ d = c ∧ ok = false) ∨ NewA n g) (ha : ∀ p, a = some p → p.block ≠ q) (hq : q < n) : ∀ p, g = some p → p.block ≠ q := by
 rcases h with ⟨rfl, -, -⟩ | h
 ·exact ha
 ·intro p hp e; have := h p hp; omega
theorem mutexMany_no (mn : Int) (a : Option Addr) (cap : Nat) (ds : List Int) (w : World) (hmn : (Lit.int .u8 mn).wf = true) (hwf : ∀ d ∈ ds, (Lit.int .u16 d).wf = true) (hml : ds.length ≤ maxLen) (h : (ds = [] ∨ ∃ b off, a = some ⟨b, off, none⟩ ∧ b < w.heap.size ∧ ∀ i (hi : i < ds.length), w.cell? ⟨b, off + i, none⟩ = some (.int .u16 ds[i]))) (hl : 200 < ds.length) : Calls Try.prog 6 #[.int .u8 mn, .slice a ds.length cap] w fun e w' => e = .returned (.bool true) ∧ Below w.heap.size w w' := by
 have B_0 := hid (Below.refl w.heap.size w)
 have hml2 : ds.length ≤ 9223372036854775807 := by unfold maxLen at hml; omega
 clear hmn hwf h hml
 go_enter Try.func6, Try.ntmps6
 go_wp2_with fail
 refine (awake15_any _).mono ?_
 rintro e u1 ⟨rfl, b1⟩
 have B_1 := hid (bl B_0.out b1)
 clear b1 B_0
 go_wp2_with fail
 refine (awake15_any _).mono ?_
 rintro e u2 ⟨rfl, b2⟩
 have B_2 := hid (bl B_1.out b2)
 clear b2 B_1
 go_wp2_with fail
 go_ret
 exact ⟨rfl, B_2.out⟩
set_option maxHeartbeats 2000000 in
theorem mutexMany_go (mn : Int) (a : Option Addr) (cap : Nat) (ds : List Int) (w : World) (hmn : (Lit.int .u8 mn).wf = true) (hwf : ∀ d ∈ ds, (Lit.int .u16 d).wf = true) (hml : ds.length ≤ maxLen) (h : (ds = [] ∨ ∃ b off, a = some ⟨b, off, none⟩ ∧ b < w.heap.size ∧ ∀ i (hi : i < ds.length), w.cell? ⟨b, off + i, none⟩ = some (.int .u16 ds[i]))) (hl200 : ds.length ≤ 200) : Calls Try.prog 6 #[.int .u8 mn, .slice a ds.length cap] w fun e w' => e = .returned (.bool true) ∧ Below w.heap.size w w' := by
 have B_0 := hid (Below.refl w.heap.size w)
 have HWF := hid hwf
 have HD := hid h
 obtain ⟨mm, rfl⟩ : ∃ m : Nat, mn = m := ⟨mn.toNat, by have := wf_u8 hmn; omega⟩
 have hmm := wf_u8 hmn
 have hw : IntKind.i64.wrap (mm : Int) = (mm : Int) := IntWalk.i64_in _ (by omega)
 have e1 : (mm : Int).tmod 20 = ((mm % 20 : Nat) : Int) := rfl
 have e2 : (mm : Int) % 20 = ((mm % 20 : Nat) : Int) := by omega
 have hn19 : mm % 20 ≤ 19 := by omega
 clear hmn hwf h hml
 generalize mm % 20 = n at *
 have hw2 : IntKind.i64.wrap (n : Int) = (n : Int) := IntWalk.i64_in _ (by omega)
 have HN := hid hn19
 have hmk := fun W => make_ints n (by omega) W
 have hmk2 : ∀ W : World, (Instr.makeSlice 22 (.int .i64 20) (.int .i64 20)).run Try.prog W = .ok (.slice (some ⟨W.heap.size, 0, none⟩) 20 20) (W.alloc (.cells (zc 20) 3)) := fun W => make_ints 20 (by decide) W
 go_enter Try.func6, Try.ntmps6
 go_wp2_with fail
 refine (awake15_any _).mono ?_
 rintro e u1 ⟨rfl, b1⟩
 have B_1 := hid (bl B_0.out b1)
 clear b1 B_0
 have hzl : LkAt (u1.alloc (.cells (zc n) 3)) (some ⟨u1.heap.size, 0, none⟩) n (List.replicate n 0) := by
  have := lk_lit u1 (zc n) (List.replicate n 0) (by simp [zc, inV]) (by simp; omega)
  simpa using this
 have HL0 := hid (show LkAt ((u1.alloc (.cells (zc n) 3)).alloc (.cells (zc 20) 3)) _ _ _ from hzl.call ((Below.refl _ _).alloc (Nat.le_refl _) _))
 have HB0 := hid (show Blk ((u1.alloc (.cells (zc n) 3)).alloc (.cells (zc 20) 3)) (u1.heap.size + 1) 3 (zc 20) from Blk.newn _ _ _ (by simp))
 have B_2 := hid (show Below w.heap.size w ((u1.alloc (.cells (zc n) 3)).alloc (.cells (zc 20) 3)) from (B_1.out.alloc B_1.out.size _).alloc (by have := B_1.out.size; simp; omega) _)
 have HGW := hid (show w.heap.size ≤ u1.heap.size + 1 from by have := B_1.out.size; omega)
 clear hzl B_1
 go_wp2_with fail
 clear hmk hmk2
 generalize ((u1.alloc (.cells (zc n) 3)).alloc (.cells (zc 20) 3)) = V at *
 have HNE := hid (show u1.heap.size ≠ u1.heap.size + 1 by omega)
 generalize hg : u1.heap.size + 1 = g at *
 generalize u1.heap.size = z at *
 clear hg
 go_loopw [6, 8] (fun v i wr => ∃ (k : Nat) (xs : List Int) (hs : Array Value) (la : Option Addr) (lc : Nat), k ≤ ds.length ∧ i = .int .i64 k ∧ v = .slice la n lc ∧ LkAt wr la lc xs ∧ Kept n xs hs ∧ Blk wr g 3 hs ∧ (∀ q, la = some q → q.block ≠ g) ∧ Below w.heap.size w wr) (fun _ i _ => ds.length - (intOf i).toNat)
 case atStart => exact ⟨0, _, _, _, _, Nat.zero_le _, rfl, rfl, HL0.out, Kept.start n HN.out, HB0.out, fun q hq => by cases hq; exact HNE.out, B_2.out⟩
 case round =>
  obtain ⟨k, xs, hs, la, lc, hk, rfl, rfl, hA, hK, hH, hap, hB⟩ := hrel
  have HA := hid hA
  have HK := hid hK
  have HH := hid hH
  have HAP := hid hap
  have HB := hid hB
  clear hA hK hH hap hB HL0 HB0 HNE B_2
  by_cases hlt : k < ds.length
  ·obtain ⟨b2, o2, rfl, hb2, hc2⟩ : ∃ b off, a = some ⟨b, off, none⟩ ∧ b < w.heap.size ∧ ∀ i (hi : i < ds.length), w.cell? ⟨b, off + i, none⟩ = some (.int .u16 ds[i]) := by
    rcases HD.out with h | h
    ·subst h; simp at hlt
    ·exact h
   have hcd := (HB.out.cell (p := ⟨b2, o2 + k, none⟩) hb2).trans (hc2 k hlt)
   have hdr := wf_u16 (HWF.out ds[k] (List.getElem_mem hlt))
   clear hc2 hb2 HD
   obtain ⟨dn, hdn⟩ : ∃ m : Nat, ds[k] = m := ⟨ds[k].toNat, by omega⟩
   rw [hdn] at hcd hdr
   clear hdn HWF
   have f1 : (dn : Int).tmod 21 = ((dn % 21 : Nat) : Int) := rfl
   have f2 : (dn : Int) % 21 = ((dn % 21 : Nat) : Int) := by omega
   have f3 : (dn : Int).tdiv 21 = ((dn / 21 : Nat) : Int) := rfl
   have f4 : (dn : Int) / 21 = ((dn / 21 : Nat) : Int) := by omega
   have f5 : (dn : Int).tdiv 128 = ((dn / 128 : Nat) : Int) := rfl
   have f6 : (dn : Int) / 128 = ((dn / 128 : Nat) : Int) := by omega
   have f7 : ((dn / 21 : Nat) : Int).tmod 5 = ((dn / 21 % 5 : Nat) : Int) := rfl
   have f8 : ((dn / 21 : Nat) : Int) % 5 = ((dn / 21 % 5 : Nat) : Int) := by omega
   have f9 : ((dn / 128 : Nat) : Int).tmod 2 = ((dn / 128 % 2 : Nat) : Int) := rfl
   have f10 : ((dn / 128 : Nat) : Int) % 2 = ((dn / 128 % 2 : Nat) : Int) := by omega
   have hpl : dn % 21 ≤ 20 := by omega
   have hsl : dn / 21 % 5 ≤ 4 := by omega
   skip
   have g1 : IntKind.i64.wrap ((dn % 21 : Nat) : Int) = ((dn % 21 : Nat) : Int) := IntWalk.i64_in _ (by omega)
   have g2 : IntKind.i64.wrap ((dn / 21 : Nat) : Int) = ((dn / 21 : Nat) : Int) := IntWalk.i64_in _ (by omega)
   have g3 : IntKind.i64.wrap ((dn / 21 % 5 : Nat) : Int) = ((dn / 21 % 5 : Nat) : Int) := IntWalk.i64_in _ (by omega)
   have u1 : IntKind.u16.wrap ((dn / 21 : Nat) : Int) = ((dn / 21 : Nat) : Int) := by unfold IntKind.wrap; simp [IntKind.signed, IntKind.bits]; omega
   have u2 : IntKind.u16.wrap ((dn / 128 : Nat) : Int) = ((dn / 128 : Nat) : Int) := by unfold IntKind.wrap; simp [IntKind.signed, IntKind.bits]; omega
   have hd21 : dn / 21 ≤ 65535 := by omega
   have hd128 : dn / 128 ≤ 65535 := by omega
   generalize dn % 21 = pl at *
   generalize dn / 21 % 5 = sn at *
   generalize dn / 128 % 2 = tw at *
   generalize dn / 21 = d21 at *
   generalize dn / 128 = d128 at *
   have f11 : (pl : Int).tmod 20 = ((pl % 20 : Nat) : Int) := rfl
   have f12 : (pl : Int) % 20 = ((pl % 20 : Nat) : Int) := by omega
   have hwk : IntKind.i64.wrap ((k : Int) + 1) = (k : Int) + 1 := IntWalk.i64_in _ (by have := hl200; omega)
   have hws : IntKind.i64.wrap ((sn : Int) + 1) = (sn : Int) + 1 := IntWalk.i64_in _ (by omega)
   have hcut := fun W => cut_to g 20 20 n (by omega) W
   have HGB := hid HH.out.lt
   by_cases ht : tw = 0
   ·have q0 : ((tw : Int) == 0) = true := by simp [ht]
    clear ht
    by_cases hpn : pl < n
    ·by_cases hx : xs.getD pl 0 = 0
     ·have hcx := HK.out.cell hpn HH.out
      have f13 : pl % 20 = pl := Nat.mod_eq_of_lt (by omega)
      rw [f13] at f11 f12
      have q1 : (xs.getD pl 0 == 0) = true := by simpa using hx
      have HF := hid (show freeB xs (pl : Int) = true by rw [free_in HK.out.1 hpn, q1])
      have HX := hid (show takeL xs (pl : Int) (sn : Int) = xs.set pl ((sn : Int) + 1) by simp only [takeL, HF.out, if_true, Int.toNat_natCast])
      generalize xs.getD pl 0 = x at *
      clear hx
      go_wp2_with fail
      refine (take_as HK.out.1 HA.out HK.out.2.1 (by omega) (by omega) HX.out HF.out).mono ?_
      rintro e u1 ⟨ga, gc, rfl, hga, hgn, b1⟩
      have HA1 := hid hga
      have HP1 := hid (apart_of hgn HAP.out HGB.out)
      have HH1 := hid (HH.out.call b1)
      have HB1 := hid (bl HB.out b1)
      replace hcx := (b1.cell (p := ⟨g, pl, none⟩) HGB.out).trans hcx
      clear hga hgn b1 HA HAP HH HB HF HX
      have f0 : ∀ i, u1.frozen? ⟨g, i, none⟩ = false := HH1.out.frozen
      have hgl := HH1.out.lt
      have HK2 := hid (HK.out.set pl (x := ((sn : Int) + 1)) (by omega) (by omega) HN.out)
      have HA2 := hid (show LkAt (u1.setCell ⟨g, pl, none⟩ (.int .i64 ((sn : Int) + 1))) ga gc _ from HA1.out.far (one_grown u1 g pl _) HP1.out)
      have HH2 := hid (show Blk (u1.setCell ⟨g, pl, none⟩ (.int .i64 ((sn : Int) + 1))) g _ _ from HH1.out.set_ pl _)
      have HB2 := hid (show Below w.heap.size w (u1.setCell ⟨g, pl, none⟩ (.int .i64 ((sn : Int) + 1))) from HB1.out.setCell HGW.out _)
      clear HK HA1 HH1 HB1
      go_wp2_with fail
      refine (same_as HK2.out.1 HA2.out (HK2.out.at_ HN.out HH2.out)).mono ?_
      rintro e u3 ⟨rfl, b3⟩
      have HA3 := hid (HA2.out.call b3)
      have HH3 := hid (HH2.out.call b3)
      have HB3 := hid (bl HB2.out b3)
      clear b3 HA2 HH2 HB2 hcx
      go_wp2_with fail
      go_roundw
      case rel => exact ⟨k + 1, _, _, _, _, by omega, by go_num, rfl, HA3.out, HK2.out, HH3.out, HP1.out, HB3.out⟩
      case measure => simp [intOf]; omega
     ·have hcx := HK.out.cell hpn HH.out
      have f13 : pl % 20 = pl := Nat.mod_eq_of_lt (by omega)
      rw [f13] at f11 f12
      have q1 : (xs.getD pl 0 == 0) = false := by simpa using hx
      have HF := hid (show freeB xs (pl : Int) = false by rw [free_in HK.out.1 hpn, q1])
      have HX := hid (show takeL xs (pl : Int) (sn : Int) = xs by simp [takeL, HF.out])
      generalize xs.getD pl 0 = x at *
      clear hx
      go_wp2_with fail
      refine (take_as HK.out.1 HA.out HK.out.2.1 (by omega) (by omega) HX.out HF.out).mono ?_
      rintro e u1 ⟨ga, gc, rfl, hga, hgn, b1⟩
      have HA1 := hid hga
      have HP1 := hid (apart_of hgn HAP.out HGB.out)
      have HH1 := hid (HH.out.call b1)
      have HB1 := hid (bl HB.out b1)
      replace hcx := (b1.cell (p := ⟨g, pl, none⟩) HGB.out).trans hcx
      clear hga hgn b1 HA HAP HH HB HF HX
      go_wp2_with fail
      refine (same_as HK.out.1 HA1.out (HK.out.at_ HN.out HH1.out)).mono ?_
      rintro e u3 ⟨rfl, b3⟩
      have HA3 := hid (HA1.out.call b3)
      have HH3 := hid (HH1.out.call b3)
      have HB3 := hid (bl HB1.out b3)
      clear b3 HA1 HH1 HB1 hcx
      go_wp2_with fail
      go_roundw
      case rel => exact ⟨k + 1, _, _, _, _, by omega, by go_num, rfl, HA3.out, HK.out, HH3.out, HP1.out, HB3.out⟩
      case measure => simp [intOf]; omega
    ·have HF := hid (show freeB xs (pl : Int) = false from free_out HK.out.1 hpn)
     have HX := hid (show takeL xs (pl : Int) (sn : Int) = xs by simp [takeL, HF.out])
     go_wp2_with fail
     refine (take_as HK.out.1 HA.out HK.out.2.1 (by omega) (by omega) HX.out HF.out).mono ?_
     rintro e u1 ⟨ga, gc, rfl, hga, hgn, b1⟩
     have HA1 := hid hga
     have HP1 := hid (apart_of hgn HAP.out HGB.out)
     have HH1 := hid (HH.out.call b1)
     have HB1 := hid (bl HB.out b1)
     clear hga hgn b1 HA HAP HH HB HF HX
     go_wp2_with fail
     refine (same_as HK.out.1 HA1.out (HK.out.at_ HN.out HH1.out)).mono ?_
     rintro e u3 ⟨rfl, b3⟩
     have HA3 := hid (HA1.out.call b3)
     have HH3 := hid (HH1.out.call b3)
     have HB3 := hid (bl HB1.out b3)
     clear b3 HA1 HH1 HB1
     go_wp2_with fail
     go_roundw
     case rel => exact ⟨k + 1, _, _, _, _, by omega, by go_num, rfl, HA3.out, HK.out, HH3.out, HP1.out, HB3.out⟩
     case measure => simp [intOf]; omega
   ·have q0 : ((tw : Int) == 0) = false := by simp [ht]
    clear ht
    by_cases hpn : pl < n
    ·by_cases hx : xs.getD pl 0 = (sn : Int) + 1
     ·have hcx := HK.out.cell hpn HH.out
      have f13 : pl % 20 = pl := Nat.mod_eq_of_lt (by omega)
      rw [f13] at f11 f12
      have q1 : (xs.getD pl 0 == ((sn : Int) + 1)) = true := by simpa using hx
      have HF := hid (show hasB xs (pl : Int) (sn : Int) = true by rw [has_in HK.out.1 hpn, q1])
      have HX := hid (show giveL xs (pl : Int) (sn : Int) = xs.set pl 0 by simp only [giveL, HF.out, if_true, Int.toNat_natCast])
      generalize xs.getD pl 0 = x at *
      clear hx
      go_wp2_with fail
      refine (give_as HK.out.1 HA.out HK.out.2.1 (by omega) (by omega) HX.out HF.out).mono ?_
      rintro e u1 ⟨ga, gc, rfl, hga, hgn, b1⟩
      have HA1 := hid hga
      have HP1 := hid (apart_of hgn HAP.out HGB.out)
      have HH1 := hid (HH.out.call b1)
      have HB1 := hid (bl HB.out b1)
      replace hcx := (b1.cell (p := ⟨g, pl, none⟩) HGB.out).trans hcx
      clear hga hgn b1 HA HAP HH HB HF HX
      have f0 : ∀ i, u1.frozen? ⟨g, i, none⟩ = false := HH1.out.frozen
      have hgl := HH1.out.lt
      have HK2 := hid (HK.out.set pl (x := 0) (by omega) (by omega) HN.out)
      have HA2 := hid (show LkAt (u1.setCell ⟨g, pl, none⟩ (.int .i64 0)) ga gc _ from HA1.out.far (one_grown u1 g pl _) HP1.out)
      have HH2 := hid (show Blk (u1.setCell ⟨g, pl, none⟩ (.int .i64 0)) g _ _ from HH1.out.set_ pl _)
      have HB2 := hid (show Below w.heap.size w (u1.setCell ⟨g, pl, none⟩ (.int .i64 0)) from HB1.out.setCell HGW.out _)
      clear HK HA1 HH1 HB1
      go_wp2_with fail
      refine (same_as HK2.out.1 HA2.out (HK2.out.at_ HN.out HH2.out)).mono ?_
      rintro e u3 ⟨rfl, b3⟩
      have HA3 := hid (HA2.out.call b3)
      have HH3 := hid (HH2.out.call b3)
      have HB3 := hid (bl HB2.out b3)
      clear b3 HA2 HH2 HB2 hcx
      go_wp2_with fail
      go_roundw
      case rel => exact ⟨k + 1, _, _, _, _, by omega, by go_num, rfl, HA3.out, HK2.out, HH3.out, HP1.out, HB3.out⟩
      case measure => simp [intOf]; omega
     ·have hcx := HK.out.cell hpn HH.out
      have f13 : pl % 20 = pl := Nat.mod_eq_of_lt (by omega)
      rw [f13] at f11 f12
      have q1 : (xs.getD pl 0 == ((sn : Int) + 1)) = false := by simpa using hx
      have HF := hid (show hasB xs (pl : Int) (sn : Int) = false by rw [has_in HK.out.1 hpn, q1])
      have HX := hid (show giveL xs (pl : Int) (sn : Int) = xs by simp [giveL, HF.out])
      generalize xs.getD pl 0 = x at *
      clear hx
      go_wp2_with fail
      refine (give_as HK.out.1 HA.out HK.out.2.1 (by omega) (by omega) HX.out HF.out).mono ?_
      rintro e u1 ⟨ga, gc, rfl, hga, hgn, b1⟩
      have HA1 := hid hga
      have HP1 := hid (apart_of hgn HAP.out HGB.out)
      have HH1 := hid (HH.out.call b1)
      have HB1 := hid (bl HB.out b1)
      replace hcx := (b1.cell (p := ⟨g, pl, none⟩) HGB.out).trans hcx
      clear hga hgn b1 HA HAP HH HB HF HX
      go_wp2_with fail
      refine (same_as HK.out.1 HA1.out (HK.out.at_ HN.out HH1.out)).mono ?_
      rintro e u3 ⟨rfl, b3⟩
      have HA3 := hid (HA1.out.call b3)
      have HH3 := hid (HH1.out.call b3)
      have HB3 := hid (bl HB1.out b3)
      clear b3 HA1 HH1 HB1 hcx
      go_wp2_with fail
      go_roundw
      case rel => exact ⟨k + 1, _, _, _, _, by omega, by go_num, rfl, HA3.out, HK.out, HH3.out, HP1.out, HB3.out⟩
      case measure => simp [intOf]; omega
    ·have HF := hid (show hasB xs (pl : Int) (sn : Int) = false from has_out HK.out.1 hpn)
     have HX := hid (show giveL xs (pl : Int) (sn : Int) = xs by simp [giveL, HF.out])
     go_wp2_with fail
     refine (give_as HK.out.1 HA.out HK.out.2.1 (by omega) (by omega) HX.out HF.out).mono ?_
     rintro e u1 ⟨ga, gc, rfl, hga, hgn, b1⟩
     have HA1 := hid hga
     have HP1 := hid (apart_of hgn HAP.out HGB.out)
     have HH1 := hid (HH.out.call b1)
     have HB1 := hid (bl HB.out b1)
     clear hga hgn b1 HA HAP HH HB HF HX
     go_wp2_with fail
     refine (same_as HK.out.1 HA1.out (HK.out.at_ HN.out HH1.out)).mono ?_
     rintro e u3 ⟨rfl, b3⟩
     have HA3 := hid (HA1.out.call b3)
     have HH3 := hid (HH1.out.call b3)
     have HB3 := hid (bl HB1.out b3)
     clear b3 HA1 HH1 HB1
     go_wp2_with fail
     go_roundw
     case rel => exact ⟨k + 1, _, _, _, _, by omega, by go_num, rfl, HA3.out, HK.out, HH3.out, HP1.out, HB3.out⟩
     case measure => simp [intOf]; omega
  ·have hke : k = ds.length := by omega
   subst hke
   go_wp2_with fail
   go_ret
   exact ⟨rfl, HB.out⟩
theorem walk_mutexMany (mn : Int) (a : Option Addr) (cap : Nat) (ds : List Int) (w : World) (hmn : (Lit.int .u8 mn).wf = true) (hwf : ∀ d ∈ ds, (Lit.int .u16 d).wf = true) (hml : ds.length ≤ maxLen) (h : (ds = [] ∨ ∃ b off, a = some ⟨b, off, none⟩ ∧ b < w.heap.size ∧ ∀ i (hi : i < ds.length), w.cell? ⟨b, off + i, none⟩ = some (.int .u16 ds[i]))) : Calls Try.prog 6 #[.int .u8 mn, .slice a ds.length cap] w fun e w' => e = .returned (.bool true) ∧ Below w.heap.size w w' := by
 by_cases hl : ds.length ≤ 200
 ·exact mutexMany_go mn a cap ds w hmn hwf hml h hl
 ·exact mutexMany_no mn a cap ds w hmn hwf hml h (by omega)
theorem lifted_mutexMany (os : Os) (started : os.Started) (H : Type) (enc : TypeId × Value → H) :
 ReturnsInHanded {} Try.checked os 6 .any (Rows.mutexManySpec.pre6 enc Try.prog Try.f6 Rows.mutexManyRow.domain false) (Rows.mutexManySpec.post enc Try.prog Try.f6 false true false false) := by
 refine returnsInHanded_of_change (C := Try.checked) (by kernel_rfl) started (by kernel_rfl) Try.func6
  (ChangeSpec.witness6 (enc := enc) (C := Try.checked) false ⟨#[], #[.int .u8 0, .slice none 0 0], []⟩ 8 (by kernel_rfl) (by kernel_rfl) (by kernel_rfl) (by kernel_rfl)) ?_
 intro W base args ds gs before hval0 hW hcnd _
 have hval : ∀ (j : Nat) t v, Try.f6.params[j]? = some t → args[j]? = some v → Value.okWide Try.prog W .any base t v := hval0
 have hW' := hW
 obtain ⟨p, q, hA0, hV, rfl, hfz, hnd⟩ := hW
 have hA : DataW.TrodAll enc Try.prog W 0 (fun _ => true) true Try.f6.params.toList args.toList ds p := hA0
 rw [Try.params6] at hA hval
 obtain ⟨v0, vs0, d0, ds0, p0, q0, hargs, rfl, rfl, h0, r0⟩ := trodAll_cons hA
 obtain ⟨v1, vs1, d1, ds1, p1, q1, rfl, rfl, rfl, h1, r1⟩ := trodAll_cons r0
 obtain ⟨rfl, rfl, rfl⟩ := trodAll_nil r1
 obtain rfl : args = #[v0, v1] := by cases args; simp_all
 obtain ⟨rfl, rfl⟩ := trodVars_none hV
 obtain ⟨a0, rfl, rfl, rfl, w0⟩ := open_int Try.underlying5 (hval 0 5 v0 rfl rfl) h0
 obtain ⟨a1, cap1, xs1, rfl, m1, wf1, c1⟩ := read_ints Try.underlying35 Try.underlying36 (by kernel_rfl) (hval 1 35 v1 rfl rfl) h1
 clear hA0 hval0
 simp only [List.append_nil] at hW'
 refine (walk_mutexMany a0 a1 cap1 xs1 W w0 wf1 m1 c1).mono fun e W' ⟨he, hg⟩ => ?_
 subst he
 exact ⟨_, rfl, law_post (by kernel_rfl) rfl (by rw [Try.params6]; decide +kernel) rfl rfl Try.underlying4 hW' hg⟩

/-- ████ THE STATEMENT ████ -/
theorem proved_mutexMany : Rows.MutexManySaid :=
 OpenClaim.holds_of_wide 6 Try.f6 rfl rfl rfl rfl rfl rfl rfl ⟨rfl, rfl, rfl, rfl, rfl⟩ rfl rfl rfl rfl rfl (by kernel_rfl) Try.func6 (by kernel_rfl)
  (of_decide_eq_true (by kernel_rfl)) (by unfold Func.isWrapper; first | (rw [if_pos (by decide +kernel)]; kernel_rfl) | (rw [if_neg (by decide +kernel)]; exact ⟨rfl, rfl⟩))
  (fun os started H enc _ => lifted_mutexMany os started H enc)
#print axioms proved_mutexMany
end Go.Proofs.Ytbbjgkinkkgjoaa
