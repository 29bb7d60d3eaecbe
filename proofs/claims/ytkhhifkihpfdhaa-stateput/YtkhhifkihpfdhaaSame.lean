/- The document's own Same answers whether two clocks are one list of numbers. -/
import Derived.Test.YtkhhifkihpfdhaaBase
namespace Go.Proofs.Ytkhhifkihpfdhaa
open Go.RowKit

theorem take_same {xs ys : List Int} {k : Nat} (hx : k < xs.length) (hy : k < ys.length) (h : xs.take k = ys.take k) (he : xs.getD k 0 = ys.getD k 0) : xs.take (k + 1) = ys.take (k + 1) := by
  rw [List.take_succ_eq_append_getElem hx, List.take_succ_eq_append_getElem hy, h]
  rw [getD_at hx, getD_at hy] at he
  rw [he]
theorem same_all {xs ys : List Int} {k : Nat} (hx : ¬ k < xs.length) (hl : xs.length = ys.length) (h : xs.take k = ys.take k) : true = decide (xs = ys) := by
  rw [List.take_of_length_le (by omega), List.take_of_length_le (by omega)] at h
  simp [h]
theorem same_len {xs ys : List Int} (hl : ¬ xs.length = ys.length) : false = decide (xs = ys) := by
  symm; rw [decide_eq_false_iff_not]; intro h; rw [h] at hl; exact hl rfl
theorem same_one {xs ys : List Int} {k : Nat} (h : ¬ xs.getD k 0 = ys.getD k 0) : false = decide (xs = ys) := by
  symm; rw [decide_eq_false_iff_not]; intro e; rw [e] at h; exact h rfl
theorem below_drewN {B : Nat} {a w : World} (h : Below B a w) (n : Nat) : Below B a (w.drewN n) := h.trans ⟨rfl, rfl, rfl, Nat.le_refl _, fun _ _ => rfl⟩

set_option maxRecDepth 100000 in
set_option maxHeartbeats 400000 in
theorem same_ref (v u : Value) (xs ys : List Int) (w : World) (h : Row w v xs) (hu : Row w u ys) :
    Calls Try.prog 22 #[v, u] w fun e w' => e = .returned (.bool (decide (xs = ys))) ∧ Below w.heap.size w w' := by
  have hx := h.len_le
  have hy := hu.len_le
  obtain ⟨a, cap, rfl, hl, hm, hc⟩ := h
  obtain ⟨a', cap', rfl, hl', hm', hc'⟩ := hu
  clear hl hm hl' hm'
  by_cases hlen : xs.length = ys.length
  · have hne : ((xs.length : Int) != (ys.length : Int)) = false := by simp; omega
    have HL := hide hlen
    clear hlen
    go_enter Try.func22, Try.ntmps22
    go_wp2
    go_loopw [13] (fun i wr => ∃ k : Nat, k ≤ xs.length ∧ i = .int .i64 k ∧ Hid (xs.take k = ys.take k) ∧ Below w.heap.size w wr) (fun i _ => xs.length - (intOf i).toNat)
    case atStart => exact ⟨0, Nat.zero_le _, rfl, hide (by simp), Below.refl _ _⟩
    case round =>
      obtain ⟨k, hk, rfl, hall, hb⟩ := hrel
      have hky : k ≤ ys.length := by rw [← HL.out]; exact hk
      by_cases hlt : k < xs.length
      · have hlty : k < ys.length := by rw [← HL.out]; exact hlt
        obtain ⟨b, off, rfl, hcell⟩ := hc k hlt
        obtain ⟨b', off', rfl, hcell'⟩ := hc' k hlty
        clear hc hc'
        obtain ⟨y, HY⟩ : ∃ y, Hid (xs.getD k 0 = y) := ⟨_, rfl⟩
        obtain ⟨z, HZ⟩ : ∃ y, Hid (ys.getD k 0 = y) := ⟨_, rfl⟩
        rw [HY.out] at hcell
        rw [HZ.out] at hcell'
        have c1 := (hb.cell (World.block_lt_of_cell? w _ hcell)).trans hcell
        have c2 := (hb.cell (World.block_lt_of_cell? w _ hcell')).trans hcell'
        have hlt' : (k : Int) < (xs.length : Int) := by omega
        have hlty' : (k : Int) < (ys.length : Int) := by omega
        clear hcell hcell'
        by_cases he : y = z
        · have hq : (y != z) = false := by simp [he]
          have HE := hide he
          clear he
          go_wp2
          go_quiet (fail)
          go_wp2
          go_roundw
          case rel => exact ⟨k + 1, by omega, by go_num, hide (take_same hlt hlty hall.out (by rw [HY.out, HZ.out, HE.out])), below_drewN hb _⟩
          case measure => simp [intOf]; omega
        · have hq : (y != z) = true := by simp [he]
          have HE := hide he
          clear he
          go_wp2
          go_quiet (fail)
          go_wp2
          go_ret
          exact ⟨ret_bool (same_one (by rw [HY.out, HZ.out]; exact HE.out)), below_drewN hb _⟩
      · go_wp2
        go_ret
        exact ⟨ret_bool (same_all hlt HL.out hall.out), hb⟩
  · have hne : ((xs.length : Int) != (ys.length : Int)) = true := by simp; omega
    have HL := hide hlen
    clear hlen
    go_enter Try.func22, Try.ntmps22
    go_wp2
    go_ret
    exact ⟨ret_bool (same_len HL.out), Below.refl _ _⟩
end Go.Proofs.Ytkhhifkihpfdhaa
