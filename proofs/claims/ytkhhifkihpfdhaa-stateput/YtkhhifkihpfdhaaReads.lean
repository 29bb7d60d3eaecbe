/- The small readers of clocks: has an author, the longer length, an entry or 0 behind the end, the greater and the lesser of two numbers. -/
import Derived.Test.YtkhhifkihpfdhaaBase
namespace Go.Proofs.Ytkhhifkihpfdhaa
open Go.RowKit

theorem hasAuthor_yes (v : Value) (xs : List Int) (i : Int) (w : World) (h : Row w v xs) (h0 : 0 ≤ i) (h1 : i < xs.length) :
    Calls Try.prog 66 #[v, .int .i64 i] w fun e w' => e = .returned (.bool true) ∧ w' = w := by
  have hx := h.len_le
  obtain ⟨a, cap, rfl, hl, hm, hc⟩ := h
  clear hl hm hc
  go_enter Try.func66, Try.ntmps66
  go_wp2
  go_ret
  exact ⟨rfl, rfl⟩
theorem hasAuthor_no (v : Value) (xs : List Int) (i : Int) (w : World) (h : Row w v xs) (h1 : i < 0 ∨ (xs.length : Int) ≤ i) :
    Calls Try.prog 66 #[v, .int .i64 i] w fun e w' => e = .returned (.bool false) ∧ w' = w := by
  have hx := h.len_le
  obtain ⟨a, cap, rfl, hl, hm, hc⟩ := h
  clear hl hm hc
  rcases (show i < 0 ∨ (0 ≤ i ∧ (xs.length : Int) ≤ i) by omega) with h2 | ⟨h2, h3⟩ <;> clear h1
  · go_enter Try.func66, Try.ntmps66
    go_wp2
    go_ret
    exact ⟨rfl, rfl⟩
  · have hd : decide (i < (xs.length : Int)) = false := by simp; omega
    go_enter Try.func66, Try.ntmps66
    go_wp2
    go_ret
    exact ⟨rfl, rfl⟩

/-- The longer length. -/
def lenM (xs ys : List Int) : Nat := if ys.length ≤ xs.length then xs.length else ys.length
theorem lenM_le {xs ys : List Int} : xs.length ≤ lenM xs ys ∧ ys.length ≤ lenM xs ys := by unfold lenM; split <;> omega
theorem lenM_bd {xs ys : List Int} {n : Nat} (h : xs.length ≤ n) (h' : ys.length ≤ n) : lenM xs ys ≤ n := by unfold lenM; split <;> omega

theorem longer_clock (v u : Value) (xs ys : List Int) (w : World) (h : Row w v xs) (hu : Row w u ys) :
    Calls Try.prog 114 #[v, u] w fun e w' => e = .returned (.int .i64 (lenM xs ys)) ∧ w' = w := by
  have hx := h.len_le
  have hy := hu.len_le
  obtain ⟨a, cap, rfl, hl, hm, hc⟩ := h
  obtain ⟨a', cap', rfl, hl', hm', hc'⟩ := hu
  clear hl hm hc hl' hm' hc'
  by_cases hle : ys.length ≤ xs.length
  · have H : Hid (lenM xs ys = xs.length) := by simp [lenM, hle, Hid]
    by_cases hlt : ys.length < xs.length
    · have h1 : (ys.length : Int) < (xs.length : Int) := by omega
      have h2 : ((xs.length : Int)) ≠ (ys.length : Int) := by omega
      go_enter Try.func114, Try.ntmps114
      go_wp2
      go_ret
      exact ⟨ret_int (by have := H.out; omega), rfl⟩
    · have h1 : ¬ (ys.length : Int) < (xs.length : Int) := by omega
      have h2 : ¬ (xs.length : Int) < (ys.length : Int) := by omega
      go_enter Try.func114, Try.ntmps114
      go_wp2
      go_ret
      exact ⟨ret_int (by have := H.out; omega), rfl⟩
  · have H : Hid (lenM xs ys = ys.length) := by simp [lenM, hle, Hid]
    have h1 : ¬ (ys.length : Int) < (xs.length : Int) := by omega
    have h2 : (xs.length : Int) < (ys.length : Int) := by omega
    go_enter Try.func114, Try.ntmps114
    go_wp2
    go_ret
    exact ⟨ret_int (by have := H.out; omega), rfl⟩
theorem long_ref (v u : Value) (xs ys : List Int) (w : World) (h : Row w v xs) (hu : Row w u ys) :
    Calls Try.prog 100 #[v, u] w fun e w' => e = .returned (.int .i64 (lenM xs ys)) ∧ w' = w := by
  have hx := h.len_le
  have hy := hu.len_le
  obtain ⟨a, cap, rfl, hl, hm, hc⟩ := h
  obtain ⟨a', cap', rfl, hl', hm', hc'⟩ := hu
  clear hl hm hc hl' hm' hc'
  by_cases hle : ys.length ≤ xs.length
  · have H : Hid (lenM xs ys = xs.length) := by simp [lenM, hle, Hid]
    by_cases hlt : ys.length < xs.length
    · have h1 : (ys.length : Int) < (xs.length : Int) := by omega
      have h2 : ((xs.length : Int)) ≠ (ys.length : Int) := by omega
      go_enter Try.func100, Try.ntmps100
      go_wp2
      go_ret
      exact ⟨ret_int (by have := H.out; omega), rfl⟩
    · have h1 : ¬ (ys.length : Int) < (xs.length : Int) := by omega
      have h2 : ¬ (xs.length : Int) < (ys.length : Int) := by omega
      go_enter Try.func100, Try.ntmps100
      go_wp2
      go_ret
      exact ⟨ret_int (by have := H.out; omega), rfl⟩
  · have H : Hid (lenM xs ys = ys.length) := by simp [lenM, hle, Hid]
    have h1 : ¬ (ys.length : Int) < (xs.length : Int) := by omega
    have h2 : (xs.length : Int) < (ys.length : Int) := by omega
    go_enter Try.func100, Try.ntmps100
    go_wp2
    go_ret
    exact ⟨ret_int (by have := H.out; omega), rfl⟩

/-- The greater one; the lesser one. -/
def joinI (x y : Int) : Int := if x < y then y else x
def meetI (x y : Int) : Int := if y < x then y else x

theorem fn_join (x y : Int) (w : World) : Calls Try.prog 94 #[.int .i64 x, .int .i64 y] w fun e w' => e = .returned (.int .i64 (joinI x y)) ∧ w' = w := by
  rcases (show x < y ∨ x = y ∨ y < x by omega) with h | rfl | h
  all_goals
    go_enter Try.func94, Try.ntmps94
    go_wp2
    all_goals (go_ret; exact ⟨ret_int (by unfold joinI; split <;> omega), rfl⟩)
/-- A cell that a closure reads: an entry, or 0 behind the end. -/
theorem entry_fn (p : Addr) (v : Value) (xs : List Int) (k : Nat) (w : World) (hp : p.spot = none) (hv : w.cell? p = some v) (h : Row w v xs) :
    Calls Try.prog 121 #[.int .i64 k, .pointer (some p)] w fun e w' => e = .returned (.int .i64 (xs.getD k 0)) ∧ w' = w := by
  obtain ⟨pb, po, ps⟩ := p
  obtain rfl : ps = none := hp
  by_cases hk : k < xs.length
  · have hh := hasAuthor_yes v xs k w h (by omega) (by omega)
    obtain ⟨a, cap, rfl, hl, hm, hc⟩ := h
    obtain ⟨b, off, rfl, hcell⟩ := hc k hk
    clear hc hl hm
    obtain ⟨y, HY⟩ : ∃ y, Hid (xs.getD k 0 = y) := ⟨_, rfl⟩
    rw [HY.out] at hcell
    rw [HY.out]
    have HH := hide hh
    clear hh
    go_enter Try.func121, Try.ntmps121
    go_wp2_with (go_at_call 66; refine HH.out.mono ?_; rintro e w' ⟨rfl, rfl⟩)
    go_ret
    exact ⟨rfl, rfl⟩
  · have hh := hasAuthor_no v xs k w h (by omega)
    have e0 : xs.getD k 0 = 0 := by simp [List.getD, List.getElem?_eq_none (Nat.le_of_not_lt hk)]
    rw [e0]
    have HH := hide hh
    clear hh h e0
    go_enter Try.func121, Try.ntmps121
    go_wp2_with (go_at_call 66; refine HH.out.mono ?_; rintro e w' ⟨rfl, rfl⟩)
    go_ret
    exact ⟨rfl, rfl⟩

/-- The document's own reader: an author's entry, 0 behind the end. -/
theorem at_ref (v : Value) (xs : List Int) (k : Nat) (w : World) (h : Row w v xs) :
    Calls Try.prog 101 #[v, .int .i64 k] w fun e w' => e = .returned (.int .i64 (xs.getD k 0)) ∧ w' = w := by
  have hx := h.len_le
  obtain ⟨a, cap, rfl, hl, hm, hc⟩ := h
  by_cases hk : k < xs.length
  · obtain ⟨b, off, rfl, hcell⟩ := hc k hk
    clear hc hl hm
    obtain ⟨y, HY⟩ : ∃ y, Hid (xs.getD k 0 = y) := ⟨_, rfl⟩
    rw [HY.out] at hcell
    rw [HY.out]
    have hk' : (k : Int) < (xs.length : Int) := by omega
    go_enter Try.func101, Try.ntmps101
    go_wp2
    go_ret
    exact ⟨rfl, rfl⟩
  · have e0 : xs.getD k 0 = 0 := by simp [List.getD, List.getElem?_eq_none (Nat.le_of_not_lt hk)]
    rw [e0]
    have hk' : ¬ (k : Int) < (xs.length : Int) := by omega
    clear hc hl hm e0
    go_enter Try.func101, Try.ntmps101
    go_wp2
    go_ret
    exact ⟨rfl, rfl⟩
end Go.Proofs.Ytkhhifkihpfdhaa
