/- The small readers of clocks: has an author, the longer length, an entry or 0 behind the end, the greater and the lesser of two numbers. -/
import Derived.Test.YtfhecilhcofboaaGreatBase
namespace Go.Proofs.YtfhecilhcofboaaGreat
open Go.RowKit

theorem hasAuthor_yes (v : Value) (xs : List Int) (i : Int) (w : World) (h : Row w v xs) (h0 : 0 ≤ i) (h1 : i < xs.length) :
  Calls Tryz.prog 61 #[v, .int .i64 i] w fun e w' => e = .returned (.bool true) ∧ w' = w := by
 have hx := h.len_le
 obtain ⟨a, cap, rfl, hl, hm, hc⟩ := h
 clear hl hm hc
 go_enter Tryz.func61, Tryz.ntmps61
 go_wp2
 go_ret
 exact ⟨rfl, rfl⟩
theorem hasAuthor_no (v : Value) (xs : List Int) (i : Int) (w : World) (h : Row w v xs) (h1 : i < 0 ∨ (xs.length : Int) ≤ i) :
  Calls Tryz.prog 61 #[v, .int .i64 i] w fun e w' => e = .returned (.bool false) ∧ w' = w := by
 have hx := h.len_le
 obtain ⟨a, cap, rfl, hl, hm, hc⟩ := h
 clear hl hm hc
 rcases (show i < 0 ∨ (0 ≤ i ∧ (xs.length : Int) ≤ i) by omega) with h2 | ⟨h2, h3⟩ <;> clear h1
 ·go_enter Tryz.func61, Tryz.ntmps61
  go_wp2
  go_ret
  exact ⟨rfl, rfl⟩
 have hd : decide (i < (xs.length : Int)) = false := by simp; omega
 go_enter Tryz.func61, Tryz.ntmps61
 go_wp2
 go_ret
 exact ⟨rfl, rfl⟩

def lenM (xs ys : List Int) : Nat := if ys.length ≤ xs.length then xs.length else ys.length
theorem lenM_le {xs ys : List Int} : xs.length ≤ lenM xs ys ∧ ys.length ≤ lenM xs ys := by unfold lenM; split <;> omega
theorem lenM_bd {xs ys : List Int} {n : Nat} (h : xs.length ≤ n) (h' : ys.length ≤ n) : lenM xs ys ≤ n := by unfold lenM; split <;> omega

theorem longer_clock (v u : Value) (xs ys : List Int) (w : World) (h : Row w v xs) (hu : Row w u ys) :
  Calls Tryz.prog 87 #[v, u] w fun e w' => e = .returned (.int .i64 (lenM xs ys)) ∧ w' = w := by
 have hx := h.len_le
 have hy := hu.len_le
 obtain ⟨a, cap, rfl, hl, hm, hc⟩ := h
 obtain ⟨a', cap', rfl, hl', hm', hc'⟩ := hu
 clear hl hm hc hl' hm' hc'
 by_cases hle : ys.length ≤ xs.length
 ·have H : Hid (lenM xs ys = xs.length) := by simp [lenM, hle, Hid]
  by_cases hlt : ys.length < xs.length
  ·have h1 : (ys.length : Int) < (xs.length : Int) := by omega
   have h2 : ((xs.length : Int)) ≠ (ys.length : Int) := by omega
   go_enter Tryz.func87, Tryz.ntmps87
   go_wp2
   go_ret
   exact ⟨ret_int (by have := H.out; omega), rfl⟩
  have h1 : ¬ (ys.length : Int) < (xs.length : Int) := by omega
  have h2 : ¬ (xs.length : Int) < (ys.length : Int) := by omega
  go_enter Tryz.func87, Tryz.ntmps87
  go_wp2
  go_ret
  exact ⟨ret_int (by have := H.out; omega), rfl⟩
 have H : Hid (lenM xs ys = ys.length) := by simp [lenM, hle, Hid]
 have h1 : ¬ (ys.length : Int) < (xs.length : Int) := by omega
 have h2 : (xs.length : Int) < (ys.length : Int) := by omega
 go_enter Tryz.func87, Tryz.ntmps87
 go_wp2
 go_ret
 exact ⟨ret_int (by have := H.out; omega), rfl⟩
theorem long_ref (v u : Value) (xs ys : List Int) (w : World) (h : Row w v xs) (hu : Row w u ys) :
  Calls Tryz.prog 78 #[v, u] w fun e w' => e = .returned (.int .i64 (lenM xs ys)) ∧ w' = w := by
 have hx := h.len_le
 have hy := hu.len_le
 obtain ⟨a, cap, rfl, hl, hm, hc⟩ := h
 obtain ⟨a', cap', rfl, hl', hm', hc'⟩ := hu
 clear hl hm hc hl' hm' hc'
 by_cases hle : ys.length ≤ xs.length
 ·have H : Hid (lenM xs ys = xs.length) := by simp [lenM, hle, Hid]
  by_cases hlt : ys.length < xs.length
  ·have h1 : (ys.length : Int) < (xs.length : Int) := by omega
   have h2 : ((xs.length : Int)) ≠ (ys.length : Int) := by omega
   go_enter Tryz.func78, Tryz.ntmps78
   go_wp2
   go_ret
   exact ⟨ret_int (by have := H.out; omega), rfl⟩
  have h1 : ¬ (ys.length : Int) < (xs.length : Int) := by omega
  have h2 : ¬ (xs.length : Int) < (ys.length : Int) := by omega
  go_enter Tryz.func78, Tryz.ntmps78
  go_wp2
  go_ret
  exact ⟨ret_int (by have := H.out; omega), rfl⟩
 have H : Hid (lenM xs ys = ys.length) := by simp [lenM, hle, Hid]
 have h1 : ¬ (ys.length : Int) < (xs.length : Int) := by omega
 have h2 : (xs.length : Int) < (ys.length : Int) := by omega
 go_enter Tryz.func78, Tryz.ntmps78
 go_wp2
 go_ret
 exact ⟨ret_int (by have := H.out; omega), rfl⟩

def joinI (x y : Int) : Int := if x < y then y else x
def meetI (x y : Int) : Int := if y < x then y else x

theorem fn_join (x y : Int) (w : World) : Calls Tryz.prog 94 #[.int .i64 x, .int .i64 y] w fun e w' => e = .returned (.int .i64 (joinI x y)) ∧ w' = w := by
 rcases (show x < y ∨ x = y ∨ y < x by omega) with h | rfl | h
 all_goals
  go_enter Tryz.func94, Tryz.ntmps94
  go_wp2
  all_goals (go_ret; exact ⟨ret_int (by unfold joinI; split <;> omega), rfl⟩)
theorem fn_meet (x y : Int) (w : World) : Calls Tryz.prog 96 #[.int .i64 x, .int .i64 y] w fun e w' => e = .returned (.int .i64 (meetI x y)) ∧ w' = w := by
 rcases (show x < y ∨ x = y ∨ y < x by omega) with h | rfl | h
 all_goals
  go_enter Tryz.func96, Tryz.ntmps96
  go_wp2
  all_goals (go_ret; exact ⟨ret_int (by unfold meetI; split <;> omega), rfl⟩)

theorem entry_fn (p : Addr) (v : Value) (xs : List Int) (k : Nat) (w : World) (hp : p.spot = none) (hv : w.cell? p = some v) (h : Row w v xs) :
  Calls Tryz.prog 114 #[.int .i64 k, .pointer (some p)] w fun e w' => e = .returned (.int .i64 (xs.getD k 0)) ∧ w' = w := by
 obtain ⟨pb, po, ps⟩ := p
 obtain rfl : ps = none := hp
 by_cases hk : k < xs.length
 ·have hh := hasAuthor_yes v xs k w h (by omega) (by omega)
  obtain ⟨a, cap, rfl, hl, hm, hc⟩ := h
  obtain ⟨b, off, rfl, hcell⟩ := hc k hk
  clear hc hl hm
  obtain ⟨y, HY⟩ : ∃ y, Hid (xs.getD k 0 = y) := ⟨_, rfl⟩
  rw [HY.out] at hcell
  rw [HY.out]
  have HH := hide hh
  clear hh
  go_enter Tryz.func114, Tryz.ntmps114
  go_wp2_with (go_at_call 61; refine HH.mono ?_; rintro e w' ⟨rfl, rfl⟩)
  go_ret
  exact ⟨rfl, rfl⟩
 have hh := hasAuthor_no v xs k w h (by omega)
 have e0 : xs.getD k 0 = 0 := by simp [List.getD, List.getElem?_eq_none (Nat.le_of_not_lt hk)]
 rw [e0]
 have HH := hide hh
 clear hh h e0
 go_enter Tryz.func114, Tryz.ntmps114
 go_wp2_with (go_at_call 61; refine HH.mono ?_; rintro e w' ⟨rfl, rfl⟩)
 go_ret
 exact ⟨rfl, rfl⟩

theorem at_ref (v : Value) (xs : List Int) (k : Nat) (w : World) (h : Row w v xs) :
  Calls Tryz.prog 79 #[v, .int .i64 k] w fun e w' => e = .returned (.int .i64 (xs.getD k 0)) ∧ w' = w := by
 have hx := h.len_le
 obtain ⟨a, cap, rfl, hl, hm, hc⟩ := h
 by_cases hk : k < xs.length
 ·obtain ⟨b, off, rfl, hcell⟩ := hc k hk
  clear hc hl hm
  obtain ⟨y, HY⟩ : ∃ y, Hid (xs.getD k 0 = y) := ⟨_, rfl⟩
  rw [HY.out] at hcell
  rw [HY.out]
  have hk' : (k : Int) < (xs.length : Int) := by omega
  go_enter Tryz.func79, Tryz.ntmps79
  go_wp2
  go_ret
  exact ⟨rfl, rfl⟩
 have e0 : xs.getD k 0 = 0 := by simp [List.getD, List.getElem?_eq_none (Nat.le_of_not_lt hk)]
 rw [e0]
 have hk' : ¬ (k : Int) < (xs.length : Int) := by omega
 clear hc hl hm e0
 go_enter Tryz.func79, Tryz.ntmps79
 go_wp2
 go_ret
 exact ⟨rfl, rfl⟩
end Go.Proofs.YtfhecilhcofboaaGreat
/- The document's own Same answers whether two clocks are one list of numbers. -/
namespace Go.Proofs.YtfhecilhcofboaaGreat
open Go.RowKit

theorem take_same {xs ys : List Int} {k : Nat} (hx : k < xs.length) (hy : k < ys.length) (h : xs.take k = ys.take k) (he : xs.getD k 0 = ys.getD k 0) : xs.take (k + 1) = ys.take (k + 1) := by
 rw [List.take_succ_eq_append_getElem hx, List.take_succ_eq_append_getElem hy, h]
 rw [getD_at hx, getD_at hy] at he
 rw [he]
theorem same_all {xs ys : List Int} {k : Nat} (hx : ¬ k < xs.length) (hl : xs.length = ys.length) (h : xs.take k = ys.take k) : true = decide (xs = ys) := by
 rw [List.take_of_length_le (by omega), List.take_of_length_le (by omega)] at h
 simp [h]
theorem same_len {xs ys : List Int} (hl : ¬ xs.length = ys.length) : false = decide (xs = ys) := by
 symm; rw [decide_eq_false_iff_not]; intro h; rw [h] at hl; exact hl rfl
theorem same_one {xs ys : List Int} {k : Nat} (h : ¬ xs.getD k 0 = ys.getD k 0) : false = decide (xs = ys) := by
 symm; rw [decide_eq_false_iff_not]; intro e; rw [e] at h; exact h rfl
theorem below_drewN {B : Nat} {a w : World} (h : Below B a w) (n : Nat) : Below B a (w.drewN n) := h.trans ⟨rfl, rfl, rfl, nlr _, fun _ _ => rfl⟩

set_option maxRecDepth 100000 in
set_option maxHeartbeats 400000 in
theorem same_ref (v u : Value) (xs ys : List Int) (w : World) (h : Row w v xs) (hu : Row w u ys) :
  Calls Tryz.prog 25 #[v, u] w fun e w' => e = .returned (.bool (decide (xs = ys))) ∧ Below w.heap.size w w' := by
 have hx := h.len_le
 have hy := hu.len_le
 obtain ⟨a, cap, rfl, hl, hm, hc⟩ := h
 obtain ⟨a', cap', rfl, hl', hm', hc'⟩ := hu
 clear hl hm hl' hm'
 by_cases hlen : xs.length = ys.length
 ·have hne : ((xs.length : Int) != (ys.length : Int)) = false := by simp; omega
  have HL := hide hlen
  clear hlen
  go_enter Tryz.func25, Tryz.ntmps25
  go_wp2
  go_loopw [13] (fun i wr => ∃ k : Nat, k ≤ xs.length ∧ i = .int .i64 k ∧ Hid (xs.take k = ys.take k) ∧ Below w.heap.size w wr) (fun i _ => xs.length - (intOf i).toNat)
  case atStart => exact ⟨0, Nat.zero_le _, rfl, hide (by simp), Below.refl _ _⟩
  obtain ⟨k, hk, rfl, hall, hb⟩ := hrel
  have hky : k ≤ ys.length := by rw [← HL.out]; exact hk
  by_cases hlt : k < xs.length
  ·have hlty : k < ys.length := by rw [← HL.out]; exact hlt
   obtain ⟨b, off, rfl, hcell⟩ := hc k hlt
   obtain ⟨b', off', rfl, hcell'⟩ := hc' k hlty
   clear hc hc'
   obtain ⟨y, HY⟩ : ∃ y, Hid (xs.getD k 0 = y) := ⟨_, rfl⟩
   obtain ⟨z, HZ⟩ : ∃ y, Hid (ys.getD k 0 = y) := ⟨_, rfl⟩
   rw [HY.out] at hcell
   rw [HZ.out] at hcell'
   have c1 := (hb.cell (World.block_lt_of_cell? w _ hcell)).trans hcell
   have c2 := (hb.cell (World.block_lt_of_cell? w _ hcell')).trans hcell'
   have hlt' : (k : Int) < (xs.length : Int) := by omega
   have hlty' : (k : Int) < (ys.length : Int) := by omega
   clear hcell hcell'
   by_cases he : y = z
   ·have hq : (y != z) = false := by simp [he]
    have HE := hide he
    clear he
    go_wp2
    go_quiet (fail)
    go_wp2
    go_roundw
    case rel => exact ⟨k + 1, by omega, by go_num, hide (take_same hlt hlty hall.out (by rw [HY.out, HZ.out, HE.out])), below_drewN hb _⟩
    case measure => simp [intOf]; omega
   have hq : (y != z) = true := by simp [he]
   have HE := hide he
   clear he
   go_wp2
   go_quiet (fail)
   go_wp2
   go_ret
   exact ⟨ret_bool (same_one (by rw [HY.out, HZ.out]; exact HE.out)), below_drewN hb _⟩
  go_wp2
  go_ret
  exact ⟨ret_bool (same_all hlt HL.out hall.out), hb⟩
 have hne : ((xs.length : Int) != (ys.length : Int)) = true := by simp; omega
 have HL := hide hlen
 clear hlen
 go_enter Tryz.func25, Tryz.ntmps25
 go_wp2
 go_ret
 exact ⟨ret_bool (same_len HL.out), Below.refl _ _⟩
end Go.Proofs.YtfhecilhcofboaaGreat
