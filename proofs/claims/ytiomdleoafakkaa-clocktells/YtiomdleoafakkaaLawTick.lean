/- The statement ClockTick of the first chapter, as a walk: it answers true for every clock and author. -/
import Derived.Test.YtiomdleoafakkaaAlive
namespace Go.Proofs.Ytiomdleoafakkaa
open Go.RowKit

theorem goodE_iff {k : Int} : goodE k = true ↔ 0 ≤ k ∧ k ≤ 1000 := by simp [goodE]
theorem wrongC_zero {xs : List Int} {n : Int} (h : wrongC xs n = 0) : 1 ≤ n ∧ n ≤ 6 ∧ (xs.length : Int) = n ∧ ∀ i, 0 ≤ xs.getD i 0 ∧ xs.getD i 0 ≤ 1000 := by
  unfold wrongC at h
  split at h
  · cases h
  · next hb =>
    split at h
    · next ha =>
      refine ⟨by omega, by omega, by omega, fun i => ?_⟩
      by_cases hi : i < xs.length
      · rw [List.all_eq_true] at ha
        rw [getD_at hi]
        exact goodE_iff.1 (ha _ (List.getElem_mem hi))
      · rw [getD_past (by omega)]; omega
    · cases h
theorem getD_set {xs : List Int} {k i : Nat} {y : Int} (hk : k < xs.length) : (xs.set k y).getD i 0 = if i = k then y else xs.getD i 0 := by
  by_cases e : i = k
  · subst e; simp [List.getD, hk]
  · rw [if_neg e]; simp [List.getD, Ne.symm e]
theorem tickC_in {xs : List Int} {k : Nat} (hk : k < xs.length) (hb : 0 ≤ xs.getD k 0 ∧ xs.getD k 0 ≤ 1000) : tickC xs k = xs.set k (xs.getD k 0 + 1) := by
  unfold tickC
  rw [if_pos ⟨by omega, by omega⟩, Int.toNat_natCast, IntWalk.wrap64_in _ (by omega)]
theorem tick_sees {xs : List Int} {k : Nat} (hk : k < xs.length) (hb : 0 ≤ xs.getD k 0 ∧ xs.getD k 0 ≤ 1000) : seesC (tickC xs k) xs = true := by
  rw [seesC_iff]; intro i; rw [tickC_in hk hb, getD_set hk]; split
  · next e => subst e; omega
  · omega
theorem tick_seen {xs : List Int} {k : Nat} (hk : k < xs.length) (hb : 0 ≤ xs.getD k 0 ∧ xs.getD k 0 ≤ 1000) : seesC xs (tickC xs k) = false := by
  rw [Bool.eq_false_iff]; intro h
  have := seesC_iff.1 h k
  rw [tickC_in hk hb, getD_set hk, if_pos rfl] at this
  omega
theorem tick_has {xs : List Int} {k : Nat} (hk : k < xs.length) (hb : 0 ≤ xs.getD k 0 ∧ xs.getD k 0 ≤ 1000) : hasC (tickC xs k) k (xs.getD k 0 + 1) = true := by
  unfold hasC
  rw [tickC_length, tickC_in hk hb, Int.toNat_natCast, getD_set hk, if_pos rfl]
  simp [hk]
theorem tick_hasnt {xs : List Int} {k : Nat} : hasC xs k (xs.getD k 0 + 1) = false := by
  unfold hasC
  rw [decide_eq_false_iff_not, Int.toNat_natCast]
  omega

theorem wrong_zero (v : Value) (xs : List Int) (n : Int) (w : World) (h : Row w v xs) (he : wrongC xs n = 0) :
    Calls Try.prog 14 #[v, .int .i64 n] w fun e w' => e = .returned (.int .i64 0) ∧ w' = w := by
  have := wrong_clock v xs n w h
  rw [he] at this
  exact this

set_option maxRecDepth 100000 in
set_option maxHeartbeats 1000000 in
theorem tick_law (v : Value) (xs : List Int) (i : Int) (w : World) (h : Row w v xs) :
    Calls Try.prog 6 #[v, .int .i64 i] w fun e w' => e = .returned (.bool true) ∧ Below w.heap.size w w' := by
  have hx := h.len_le
  by_cases hw0 : wrongC xs xs.length = 0
  · obtain ⟨hn1, hn6, -, hall⟩ := wrongC_zero hw0
    have HALL := hide hall
    have HW0 := hide hw0
    clear hw0 hall
    by_cases hin : 0 ≤ i ∧ i < xs.length
    · obtain ⟨h0, h1⟩ := hin
      obtain ⟨k, rfl⟩ := Int.eq_ofNat_of_zero_le h0
      have hk : k < xs.length := by omega
      have hyb := HALL.out k
      obtain ⟨y, HY⟩ : ∃ y, Hid (xs.getD k 0 = y) := ⟨_, rfl⟩
      rw [HY.out] at hyb
      obtain ⟨hy0, hy1⟩ := hyb
      have HROW := hide h
      obtain ⟨a, cap, rfl, -, -, hc⟩ := h
      obtain ⟨b, off, rfl, hck⟩ := hc k hk
      rw [HY.out] at hck
      have HCK := hide hck
      clear hc hck
      go_enter Try.func6, Try.ntmps6
      go_wp2_with fail
      refine (alive_law _).mono ?_
      rintro e w1 ⟨rfl, hb1⟩
      have R1 := hide (HROW.out.below hb1 (Nat.le_refl _))
      go_wp2_with fail
      refine (wrong_zero _ xs _ _ R1.out HW0.out).mono ?_
      rintro e w' ⟨rfl, rfl⟩
      go_wp2_with fail
      refine (tick_clock _ xs _ _ R1.out (by omega)).mono ?_
      rintro e w2 ⟨t, rfl, ho2, hb2⟩
      have HB2 := hide (below_step hb1 hb2)
      have R2 := hide (R1.out.below hb2 (Nat.le_refl _))
      have T2 := hide ho2.row
      clear ho2 hb2 R1 hb1
      go_wp2_with fail
      refine (sees_yes _ _ _ _ _ T2.out R2.out (tick_sees hk (by rw [HY.out]; omega))).mono ?_
      rintro e w3 ⟨rfl, hb3⟩
      have HB3 := hide (below_step HB2.out hb3)
      have R3 := hide (R2.out.below hb3 (Nat.le_refl _))
      have T3 := hide (T2.out.below hb3 (Nat.le_refl _))
      clear HB2 R2 T2 hb3
      go_wp2_with fail
      refine (sees_no _ _ _ _ _ R3.out T3.out (tick_seen hk (by rw [HY.out]; omega))).mono ?_
      rintro e w4 ⟨rfl, hb4⟩
      have HB4 := hide (below_step HB3.out hb4)
      have R4 := hide (R3.out.below hb4 (Nat.le_refl _))
      have T4 := hide (T3.out.below hb4 (Nat.le_refl _))
      have ck4 := (HB4.out.cell (World.block_lt_of_cell? w _ HCK.out)).trans HCK.out
      clear HB3 R3 T3 hb4
      go_wp2_with fail
      refine (has_no _ xs _ _ _ R4.out (by have := @tick_hasnt xs k; rw [HY.out] at this; exact this)).mono ?_
      rintro e w' ⟨rfl, hw'⟩
      rw [hw']; clear hw' w'
      go_wp2_with fail
      refine (has_yes _ _ _ _ _ T4.out (by have := tick_has hk (HALL.out k); rw [HY.out] at this; exact this)).mono ?_
      rintro e w' ⟨rfl, hw'⟩
      rw [hw']; clear hw' w'
      obtain ⟨ta, tcap, ht, -, -, htc⟩ := T4.out
      rw [tickC_length] at ht htc
      subst ht
      have HTC := hide htc
      have HROWC : Hid (∀ j, j < xs.length → w4.cell? ⟨b, off + j, none⟩ = some (.int .i64 (xs.getD j 0))) := by
        have hr4 := R4.out
        obtain ⟨a', cap', h5, -, -, h6⟩ := hr4
        simp only [Value.slice.injEq] at h5
        obtain ⟨rfl, -, rfl⟩ := h5
        intro j hj
        obtain ⟨b', off', h7, h8⟩ := h6 j hj
        simp only [Option.some.injEq, Addr.mk.injEq, and_true] at h7
        obtain ⟨rfl, rfl⟩ := h7
        exact h8
      clear htc T4 ck4
      go_wp2_with fail
      go_loopw [59] (fun i wr => ∃ j : Nat, j ≤ xs.length ∧ i = .int .i64 j ∧ Below w4.heap.size w4 wr) (fun i _ => xs.length - (intOf i).toNat)
      case atStart => exact ⟨0, Nat.zero_le _, rfl, Below.refl _ _⟩
      case round =>
        obtain ⟨j, hj, rfl, hbr⟩ := hrel
        by_cases hlt : j < xs.length
        · have hlt' : (j : Int) < (xs.length : Int) := by omega
          by_cases hjk : j = k
          · have hd : ((j : Int) != (k : Int)) = false := by simp [hjk]
            clear hjk
            go_wp2_with fail
            go_quiet (fail)
            go_wp2_with fail
            go_roundw
            case rel => exact ⟨j + 1, by omega, by go_num, below_drewN hbr _⟩
            case measure => simp [intOf]; omega
          · have hd : ((j : Int) != (k : Int)) = true := by simp; omega
            obtain ⟨tb, toff, hta, htcell⟩ := HTC.out j hlt
            have hc2 := HROWC.out j hlt
            rw [tickC_in hk (HALL.out k), getD_set hk, if_neg hjk] at htcell
            obtain ⟨z, HZ⟩ : ∃ y, Hid (xs.getD j 0 = y) := ⟨_, rfl⟩
            rw [HZ.out] at hc2 htcell
            subst hta
            have c1 := (hbr.cell (World.block_lt_of_cell? w4 _ htcell)).trans htcell
            have c2 := (hbr.cell (World.block_lt_of_cell? w4 _ hc2)).trans hc2
            clear hjk htcell hc2
            go_wp2_with fail
            go_quiet (fail)
            go_wp2_with fail
            go_roundw
            case rel => exact ⟨j + 1, by omega, by go_num, below_drewN hbr _⟩
            case measure => simp [intOf]; omega
        · have hlt' : ¬ (j : Int) < (xs.length : Int) := by omega
          go_wp2_with fail
          go_ret
          exact ⟨rfl, below_step HB4.out hbr⟩
    · have HROW := hide h
      obtain ⟨a, cap, rfl, -, -, -⟩ := h
      rcases (show i < 0 ∨ (0 ≤ i ∧ (xs.length : Int) ≤ i) by omega) with h2 | ⟨h2, h3⟩ <;> clear hin
      all_goals
        go_enter Try.func6, Try.ntmps6
        go_wp2_with fail
        refine (alive_law _).mono ?_
        rintro e w1 ⟨rfl, hb1⟩
        have R1 := hide (HROW.out.below hb1 (Nat.le_refl _))
        go_wp2_with fail
        refine (wrong_zero _ xs _ _ R1.out HW0.out).mono ?_
        rintro e w' ⟨rfl, hw'⟩
        rw [hw']; clear hw' w'
        go_wp2_with fail
        go_ret
        exact ⟨rfl, hb1⟩
  · have hne : (wrongC xs xs.length != 0) = true := by simp [hw0]
    have HROW := hide h
    obtain ⟨a, cap, rfl, -, -, -⟩ := h
    go_enter Try.func6, Try.ntmps6
    go_wp2_with fail
    refine (alive_law _).mono ?_
    rintro e w1 ⟨rfl, hb1⟩
    have R1 := hide (HROW.out.below hb1 (Nat.le_refl _))
    go_wp2_with fail
    refine (wrong_clock _ xs _ _ R1.out).mono ?_
    rintro e w' ⟨rfl, hw'⟩
    rw [hw']; clear hw' w'
    go_wp2_with fail
    go_ret
    exact ⟨rfl, hb1⟩
end Go.Proofs.Ytiomdleoafakkaa
