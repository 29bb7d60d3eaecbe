/- clock.Wrong and the document's own Wrong answer what is wrong with a clock, for every clock and every number of authors, and touch nothing. -/
import Derived.Test.YtfhecilhcofboaaGreatBase
namespace Go.Proofs.YtfhecilhcofboaaGreat
open Go.RowKit

def goodE (k : Int) : Bool := decide (0 ≤ k ∧ k ≤ 1000)
def wrongC (xs : List Int) (n : Int) : Int :=
 if n < 1 ∨ 6 < n ∨ ¬ (xs.length : Int) = n then 5 else if xs.all goodE then 0 else 3

theorem wrongC_bad {xs : List Int} {n : Int} (h : n < 1 ∨ 6 < n ∨ ¬ (xs.length : Int) = n) : 5 = wrongC xs n := by simp [wrongC, h]
theorem wrongC_all {xs : List Int} {n : Int} (h : ¬ (n < 1 ∨ 6 < n ∨ ¬ (xs.length : Int) = n)) {k : Nat} (hk : k = xs.length) (ha : (xs.take k).all goodE = true) : 0 = wrongC xs n := by
 subst hk; rw [List.take_length] at ha; rw [wrongC, if_neg h, if_pos ha]
theorem wrongC_one {xs : List Int} {n : Int} (h : ¬ (n < 1 ∨ 6 < n ∨ ¬ (xs.length : Int) = n)) {k : Nat} (hk : k < xs.length) (ha : goodE (xs.getD k 0) = false) : 3 = wrongC xs n := by
 rw [wrongC, if_neg h, if_neg]
 intro hall
 rw [List.all_eq_true] at hall
 have := hall (xs.getD k 0) (by rw [getD_at hk]; exact List.getElem_mem hk)
 rw [ha] at this; cases this
theorem all_succ {xs : List Int} {k : Nat} {p : Int → Bool} (hk : k < xs.length) (ha : (xs.take k).all p = true) (hp : p (xs.getD k 0) = true) : (xs.take (k + 1)).all p = true := by
 rw [List.take_succ_eq_append_getElem hk, List.all_append, ha]
 rw [getD_at hk] at hp
 simp [hp]

set_option maxRecDepth 100000 in
set_option maxHeartbeats 400000 in
theorem wrong_clock (v : Value) (xs : List Int) (n : Int) (w : World) (h : Row w v xs) :
  Calls Tryz.prog 47 #[v, .int .i64 n] w fun e w' => e = .returned (.int .i64 (wrongC xs n)) ∧ w' = w := by
 have hx := h.len_le
 obtain ⟨a, cap, rfl, hl, hm, hc⟩ := h
 clear hl hm
 by_cases hbad : n < 1 ∨ 6 < n ∨ ¬ (xs.length : Int) = n
 ·have H : Hid (5 = wrongC xs n) := wrongC_bad hbad
  clear hc
  rcases (show n < 1 ∨ (1 ≤ n ∧ 6 < n) ∨ (1 ≤ n ∧ n ≤ 6 ∧ ¬ (xs.length : Int) = n) by omega) with h1 | ⟨h1, h2⟩ | ⟨h1, h2, h3⟩
  ·clear hbad
   go_enter Tryz.func47, Tryz.ntmps47
   go_wp2
   go_ret
   exact ⟨ret_int H.out, rfl⟩
  ·clear hbad
   go_enter Tryz.func47, Tryz.ntmps47
   go_wp2
   go_ret
   exact ⟨ret_int H.out, rfl⟩
  have h4 : ((xs.length : Int) != n) = true := by simp [h3]
  clear hbad
  go_enter Tryz.func47, Tryz.ntmps47
  go_wp2
  go_ret
  exact ⟨ret_int H.out, rfl⟩
 have h4 : ((xs.length : Int) != n) = false := by simp; omega
 have hn1 : 1 ≤ n := by omega
 have hn6 : n ≤ 6 := by omega
 have HB := hide hbad
 clear hbad
 go_enter Tryz.func47, Tryz.ntmps47
 go_wp2
 go_loop [21] (fun i => ∃ k : Nat, k ≤ xs.length ∧ i = .int .i64 k ∧ (xs.take k).all goodE = true) (fun i => xs.length - (intOf i).toNat)
 case atStart => exact ⟨0, Nat.zero_le _, rfl, by simp⟩
 obtain ⟨k, hk, rfl, hall⟩ := hrel
 have HA := hide hall
 clear hall
 by_cases hlt : k < xs.length
 ·obtain ⟨b, off, rfl, hcell⟩ := hc k hlt
  clear hc
  obtain ⟨y, HY⟩ : ∃ y, Hid (xs.getD k 0 = y) := ⟨_, rfl⟩
  rw [HY.out] at hcell
  rcases (show y < 0 ∨ (0 ≤ y ∧ 1000 < y) ∨ (0 ≤ y ∧ y ≤ 1000) by omega) with h1 | ⟨h1, h2⟩ | ⟨h1, h2⟩
  ·go_wp2
   go_ret
   exact ⟨ret_int (wrongC_one HB.out hlt (by rw [HY.out]; simp [goodE]; omega)), rfl⟩
  ·go_wp2
   go_ret
   exact ⟨ret_int (wrongC_one HB.out hlt (by rw [HY.out]; simp [goodE]; omega)), rfl⟩
  go_wp2
  go_round
  case rel => exact ⟨k + 1, by omega, by go_num, all_succ hlt HA.out (by rw [HY.out]; simp [goodE]; omega)⟩
  case measure => simp [intOf]; omega
 go_wp2
 go_ret
 exact ⟨ret_int (wrongC_all HB.out (by omega) HA.out), rfl⟩
set_option maxRecDepth 100000 in
set_option maxHeartbeats 400000 in
theorem wrong_ref (v : Value) (xs : List Int) (n : Int) (w : World) (h : Row w v xs) :
  Calls Tryz.prog 34 #[v, .int .i64 n] w fun e w' => e = .returned (.int .i64 (wrongC xs n)) ∧ w' = w := by
 have hx := h.len_le
 obtain ⟨a, cap, rfl, hl, hm, hc⟩ := h
 clear hl hm
 by_cases hbad : n < 1 ∨ 6 < n ∨ ¬ (xs.length : Int) = n
 ·have H : Hid (5 = wrongC xs n) := wrongC_bad hbad
  clear hc
  rcases (show n < 1 ∨ (1 ≤ n ∧ 6 < n) ∨ (1 ≤ n ∧ n ≤ 6 ∧ ¬ (xs.length : Int) = n) by omega) with h1 | ⟨h1, h2⟩ | ⟨h1, h2, h3⟩
  ·clear hbad
   go_enter Tryz.func34, Tryz.ntmps34
   go_wp2
   go_ret
   exact ⟨ret_int H.out, rfl⟩
  ·clear hbad
   go_enter Tryz.func34, Tryz.ntmps34
   go_wp2
   go_ret
   exact ⟨ret_int H.out, rfl⟩
  have h4 : ((xs.length : Int) != n) = true := by simp [h3]
  clear hbad
  go_enter Tryz.func34, Tryz.ntmps34
  go_wp2
  go_ret
  exact ⟨ret_int H.out, rfl⟩
 have h4 : ((xs.length : Int) != n) = false := by simp; omega
 have hn1 : 1 ≤ n := by omega
 have hn6 : n ≤ 6 := by omega
 have HB := hide hbad
 clear hbad
 go_enter Tryz.func34, Tryz.ntmps34
 go_wp2
 go_loop [21] (fun i => ∃ k : Nat, k ≤ xs.length ∧ i = .int .i64 k ∧ (xs.take k).all goodE = true) (fun i => xs.length - (intOf i).toNat)
 case atStart => exact ⟨0, Nat.zero_le _, rfl, by simp⟩
 obtain ⟨k, hk, rfl, hall⟩ := hrel
 have HA := hide hall
 clear hall
 by_cases hlt : k < xs.length
 ·obtain ⟨b, off, rfl, hcell⟩ := hc k hlt
  clear hc
  obtain ⟨y, HY⟩ : ∃ y, Hid (xs.getD k 0 = y) := ⟨_, rfl⟩
  rw [HY.out] at hcell
  rcases (show y < 0 ∨ (0 ≤ y ∧ 1000 < y) ∨ (0 ≤ y ∧ y ≤ 1000) by omega) with h1 | ⟨h1, h2⟩ | ⟨h1, h2⟩
  ·go_wp2
   go_ret
   exact ⟨ret_int (wrongC_one HB.out hlt (by rw [HY.out]; simp [goodE]; omega)), rfl⟩
  ·go_wp2
   go_ret
   exact ⟨ret_int (wrongC_one HB.out hlt (by rw [HY.out]; simp [goodE]; omega)), rfl⟩
  go_wp2
  go_round
  case rel => exact ⟨k + 1, by omega, by go_num, all_succ hlt HA.out (by rw [HY.out]; simp [goodE]; omega)⟩
  case measure => simp [intOf]; omega
 go_wp2
 go_ret
 exact ⟨ret_int (wrongC_all HB.out (by omega) HA.out), rfl⟩
end Go.Proofs.YtfhecilhcofboaaGreat
