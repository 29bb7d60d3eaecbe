/- The statement ClockOrder of the first chapter, as a walk: it answers true for every three clocks. -/
import Derived.Test.YtiomdleoafakkaaLawTick
namespace Go.Proofs.Ytiomdleoafakkaa
open Go.RowKit

theorem sees_refl (xs : List Int) : seesC xs xs = true := by rw [seesC_iff]; intro i; omega
theorem sees_trans {xs ys zs : List Int} (h : seesC xs ys = true) (h' : seesC ys zs = true) : seesC xs zs = true := by
  rw [seesC_iff] at *; intro i; have := h i; have := h' i; omega
theorem ext_getD {xs ys : List Int} (hl : xs.length = ys.length) (h : ∀ i, xs.getD i 0 = ys.getD i 0) : xs = ys := by
  apply List.ext_getElem hl
  intro i h1 h2
  have := h i
  rwa [getD_at h1, getD_at h2] at this
theorem sees_anti {xs ys : List Int} (hl : xs.length = ys.length) (h : seesC xs ys = true) (h' : seesC ys xs = true) : xs = ys := by
  rw [seesC_iff] at *
  exact ext_getD hl fun i => by have := h i; have := h' i; omega

theorem Below.self (w : World) : Hid (Below w.heap.size w w) := Below.refl _ _

set_option maxHeartbeats 2000000 in
theorem order_law (va vb vc : Value) (xs ys zs : List Int) (w : World) (ha : Row w va xs) (hb : Row w vb ys) (hc : Row w vc zs) :
    Calls Try.prog 4 #[va, vb, vc] w fun e w' => e = .returned (.bool true) ∧ Below w.heap.size w w' := by
  have hx := ha.len_le
  have A0 := hide ha
  have B0 := hide hb
  have C0 := hide hc
  have HB0 := Below.self w
  obtain ⟨a, cap, rfl, -, -, -⟩ := ha
  obtain ⟨a', cap', rfl, -, -, -⟩ := hb
  obtain ⟨a'', cap'', rfl, -, -, -⟩ := hc
  by_cases h1 : wrongC xs xs.length = 0
  · by_cases h2 : wrongC ys xs.length = 0
    · by_cases h3 : wrongC zs xs.length = 0
      · have hl : Hid (xs.length = ys.length) := by have := (wrongC_zero h2).2.2.1; unfold Hid; omega
        have haa := sees_refl xs
        by_cases hab : seesC xs ys = true
        · cases hbc : seesC ys zs
          · cases hba : seesC ys xs
            · go_enter Try.func4, Try.ntmps4
              go_wp2_with fail
              refine (alive_law _).mono ?_
              rintro e w1 ⟨rfl, hb⟩
              have HB1 := hide (below_step HB0.out hb)
              have A1 := hide (A0.out.below hb (Nat.le_refl _))
              have B1 := hide (B0.out.below hb (Nat.le_refl _))
              have C1 := hide (C0.out.below hb (Nat.le_refl _))
              clear HB0 hb A0 B0 C0
              go_wp2_with fail
              refine (wrong_clock _ xs _ _ A1.out).mono ?_
              rintro e w' ⟨rfl, hw'⟩
              rw [hw']; clear hw' w'
              go_wp2_with fail
              refine (wrong_clock _ ys _ _ B1.out).mono ?_
              rintro e w' ⟨rfl, hw'⟩
              rw [hw']; clear hw' w'
              go_wp2_with fail
              refine (wrong_clock _ zs _ _ C1.out).mono ?_
              rintro e w' ⟨rfl, hw'⟩
              rw [hw']; clear hw' w'
              go_wp2_with fail
              refine (sees_clock _ _ xs xs _ A1.out A1.out).mono ?_
              rintro e w2 ⟨rfl, hb⟩
              have HB2 := hide (below_step HB1.out hb)
              have A2 := hide (A1.out.below hb (Nat.le_refl _))
              have B2 := hide (B1.out.below hb (Nat.le_refl _))
              have C2 := hide (C1.out.below hb (Nat.le_refl _))
              clear HB1 hb A1 B1 C1
              go_wp2_with fail
              refine (sees_clock _ _ xs ys _ A2.out B2.out).mono ?_
              rintro e w3 ⟨rfl, hb⟩
              have HB3 := hide (below_step HB2.out hb)
              have A3 := hide (A2.out.below hb (Nat.le_refl _))
              have B3 := hide (B2.out.below hb (Nat.le_refl _))
              have C3 := hide (C2.out.below hb (Nat.le_refl _))
              clear HB2 hb A2 B2 C2
              go_wp2_with fail
              refine (sees_clock _ _ ys zs _ B3.out C3.out).mono ?_
              rintro e w4 ⟨rfl, hb⟩
              have HB4 := hide (below_step HB3.out hb)
              have A4 := hide (A3.out.below hb (Nat.le_refl _))
              have B4 := hide (B3.out.below hb (Nat.le_refl _))
              have C4 := hide (C3.out.below hb (Nat.le_refl _))
              clear HB3 hb A3 B3 C3
              go_wp2_with fail
              refine (sees_clock _ _ xs ys _ A4.out B4.out).mono ?_
              rintro e w5 ⟨rfl, hb⟩
              have HB5 := hide (below_step HB4.out hb)
              have A5 := hide (A4.out.below hb (Nat.le_refl _))
              have B5 := hide (B4.out.below hb (Nat.le_refl _))
              have C5 := hide (C4.out.below hb (Nat.le_refl _))
              clear HB4 hb A4 B4 C4
              go_wp2_with fail
              refine (sees_clock _ _ ys xs _ B5.out A5.out).mono ?_
              rintro e w6 ⟨rfl, hb⟩
              have HB6 := hide (below_step HB5.out hb)
              have A6 := hide (A5.out.below hb (Nat.le_refl _))
              have B6 := hide (B5.out.below hb (Nat.le_refl _))
              have C6 := hide (C5.out.below hb (Nat.le_refl _))
              clear HB5 hb A5 B5 C5
              go_wp2_with fail
              go_ret
              exact ⟨rfl, HB6.out⟩
            · have heq := hide (sees_anti hl.out hab hba)
              go_enter Try.func4, Try.ntmps4
              go_wp2_with fail
              refine (alive_law _).mono ?_
              rintro e w1 ⟨rfl, hb⟩
              have HB1 := hide (below_step HB0.out hb)
              have A1 := hide (A0.out.below hb (Nat.le_refl _))
              have B1 := hide (B0.out.below hb (Nat.le_refl _))
              have C1 := hide (C0.out.below hb (Nat.le_refl _))
              clear HB0 hb A0 B0 C0
              go_wp2_with fail
              refine (wrong_clock _ xs _ _ A1.out).mono ?_
              rintro e w' ⟨rfl, hw'⟩
              rw [hw']; clear hw' w'
              go_wp2_with fail
              refine (wrong_clock _ ys _ _ B1.out).mono ?_
              rintro e w' ⟨rfl, hw'⟩
              rw [hw']; clear hw' w'
              go_wp2_with fail
              refine (wrong_clock _ zs _ _ C1.out).mono ?_
              rintro e w' ⟨rfl, hw'⟩
              rw [hw']; clear hw' w'
              go_wp2_with fail
              refine (sees_clock _ _ xs xs _ A1.out A1.out).mono ?_
              rintro e w2 ⟨rfl, hb⟩
              have HB2 := hide (below_step HB1.out hb)
              have A2 := hide (A1.out.below hb (Nat.le_refl _))
              have B2 := hide (B1.out.below hb (Nat.le_refl _))
              have C2 := hide (C1.out.below hb (Nat.le_refl _))
              clear HB1 hb A1 B1 C1
              go_wp2_with fail
              refine (sees_clock _ _ xs ys _ A2.out B2.out).mono ?_
              rintro e w3 ⟨rfl, hb⟩
              have HB3 := hide (below_step HB2.out hb)
              have A3 := hide (A2.out.below hb (Nat.le_refl _))
              have B3 := hide (B2.out.below hb (Nat.le_refl _))
              have C3 := hide (C2.out.below hb (Nat.le_refl _))
              clear HB2 hb A2 B2 C2
              go_wp2_with fail
              refine (sees_clock _ _ ys zs _ B3.out C3.out).mono ?_
              rintro e w4 ⟨rfl, hb⟩
              have HB4 := hide (below_step HB3.out hb)
              have A4 := hide (A3.out.below hb (Nat.le_refl _))
              have B4 := hide (B3.out.below hb (Nat.le_refl _))
              have C4 := hide (C3.out.below hb (Nat.le_refl _))
              clear HB3 hb A3 B3 C3
              go_wp2_with fail
              refine (sees_clock _ _ xs ys _ A4.out B4.out).mono ?_
              rintro e w5 ⟨rfl, hb⟩
              have HB5 := hide (below_step HB4.out hb)
              have A5 := hide (A4.out.below hb (Nat.le_refl _))
              have B5 := hide (B4.out.below hb (Nat.le_refl _))
              have C5 := hide (C4.out.below hb (Nat.le_refl _))
              clear HB4 hb A4 B4 C4
              go_wp2_with fail
              refine (sees_clock _ _ ys xs _ B5.out A5.out).mono ?_
              rintro e w6 ⟨rfl, hb⟩
              have HB6 := hide (below_step HB5.out hb)
              have A6 := hide (A5.out.below hb (Nat.le_refl _))
              have B6 := hide (B5.out.below hb (Nat.le_refl _))
              have C6 := hide (C5.out.below hb (Nat.le_refl _))
              clear HB5 hb A5 B5 C5
              go_wp2_with fail
              refine (same_yes _ _ xs ys _ A6.out B6.out heq.out).mono ?_
              rintro e w7 ⟨rfl, hb⟩
              have HB7 := hide (below_step HB6.out hb)
              have A7 := hide (A6.out.below hb (Nat.le_refl _))
              have B7 := hide (B6.out.below hb (Nat.le_refl _))
              have C7 := hide (C6.out.below hb (Nat.le_refl _))
              clear HB6 hb A6 B6 C6
              go_wp2_with fail
              go_ret
              exact ⟨rfl, HB7.out⟩
          · have hac := sees_trans hab hbc
            cases hba : seesC ys xs
            · go_enter Try.func4, Try.ntmps4
              go_wp2_with fail
              refine (alive_law _).mono ?_
              rintro e w1 ⟨rfl, hb⟩
              have HB1 := hide (below_step HB0.out hb)
              have A1 := hide (A0.out.below hb (Nat.le_refl _))
              have B1 := hide (B0.out.below hb (Nat.le_refl _))
              have C1 := hide (C0.out.below hb (Nat.le_refl _))
              clear HB0 hb A0 B0 C0
              go_wp2_with fail
              refine (wrong_clock _ xs _ _ A1.out).mono ?_
              rintro e w' ⟨rfl, hw'⟩
              rw [hw']; clear hw' w'
              go_wp2_with fail
              refine (wrong_clock _ ys _ _ B1.out).mono ?_
              rintro e w' ⟨rfl, hw'⟩
              rw [hw']; clear hw' w'
              go_wp2_with fail
              refine (wrong_clock _ zs _ _ C1.out).mono ?_
              rintro e w' ⟨rfl, hw'⟩
              rw [hw']; clear hw' w'
              go_wp2_with fail
              refine (sees_clock _ _ xs xs _ A1.out A1.out).mono ?_
              rintro e w2 ⟨rfl, hb⟩
              have HB2 := hide (below_step HB1.out hb)
              have A2 := hide (A1.out.below hb (Nat.le_refl _))
              have B2 := hide (B1.out.below hb (Nat.le_refl _))
              have C2 := hide (C1.out.below hb (Nat.le_refl _))
              clear HB1 hb A1 B1 C1
              go_wp2_with fail
              refine (sees_clock _ _ xs ys _ A2.out B2.out).mono ?_
              rintro e w3 ⟨rfl, hb⟩
              have HB3 := hide (below_step HB2.out hb)
              have A3 := hide (A2.out.below hb (Nat.le_refl _))
              have B3 := hide (B2.out.below hb (Nat.le_refl _))
              have C3 := hide (C2.out.below hb (Nat.le_refl _))
              clear HB2 hb A2 B2 C2
              go_wp2_with fail
              refine (sees_clock _ _ ys zs _ B3.out C3.out).mono ?_
              rintro e w4 ⟨rfl, hb⟩
              have HB4 := hide (below_step HB3.out hb)
              have A4 := hide (A3.out.below hb (Nat.le_refl _))
              have B4 := hide (B3.out.below hb (Nat.le_refl _))
              have C4 := hide (C3.out.below hb (Nat.le_refl _))
              clear HB3 hb A3 B3 C3
              go_wp2_with fail
              refine (sees_clock _ _ xs zs _ A4.out C4.out).mono ?_
              rintro e w5 ⟨rfl, hb⟩
              have HB5 := hide (below_step HB4.out hb)
              have A5 := hide (A4.out.below hb (Nat.le_refl _))
              have B5 := hide (B4.out.below hb (Nat.le_refl _))
              have C5 := hide (C4.out.below hb (Nat.le_refl _))
              clear HB4 hb A4 B4 C4
              go_wp2_with fail
              refine (sees_clock _ _ xs ys _ A5.out B5.out).mono ?_
              rintro e w6 ⟨rfl, hb⟩
              have HB6 := hide (below_step HB5.out hb)
              have A6 := hide (A5.out.below hb (Nat.le_refl _))
              have B6 := hide (B5.out.below hb (Nat.le_refl _))
              have C6 := hide (C5.out.below hb (Nat.le_refl _))
              clear HB5 hb A5 B5 C5
              go_wp2_with fail
              refine (sees_clock _ _ ys xs _ B6.out A6.out).mono ?_
              rintro e w7 ⟨rfl, hb⟩
              have HB7 := hide (below_step HB6.out hb)
              have A7 := hide (A6.out.below hb (Nat.le_refl _))
              have B7 := hide (B6.out.below hb (Nat.le_refl _))
              have C7 := hide (C6.out.below hb (Nat.le_refl _))
              clear HB6 hb A6 B6 C6
              go_wp2_with fail
              go_ret
              exact ⟨rfl, HB7.out⟩
            · have heq := hide (sees_anti hl.out hab hba)
              go_enter Try.func4, Try.ntmps4
              go_wp2_with fail
              refine (alive_law _).mono ?_
              rintro e w1 ⟨rfl, hb⟩
              have HB1 := hide (below_step HB0.out hb)
              have A1 := hide (A0.out.below hb (Nat.le_refl _))
              have B1 := hide (B0.out.below hb (Nat.le_refl _))
              have C1 := hide (C0.out.below hb (Nat.le_refl _))
              clear HB0 hb A0 B0 C0
              go_wp2_with fail
              refine (wrong_clock _ xs _ _ A1.out).mono ?_
              rintro e w' ⟨rfl, hw'⟩
              rw [hw']; clear hw' w'
              go_wp2_with fail
              refine (wrong_clock _ ys _ _ B1.out).mono ?_
              rintro e w' ⟨rfl, hw'⟩
              rw [hw']; clear hw' w'
              go_wp2_with fail
              refine (wrong_clock _ zs _ _ C1.out).mono ?_
              rintro e w' ⟨rfl, hw'⟩
              rw [hw']; clear hw' w'
              go_wp2_with fail
              refine (sees_clock _ _ xs xs _ A1.out A1.out).mono ?_
              rintro e w2 ⟨rfl, hb⟩
              have HB2 := hide (below_step HB1.out hb)
              have A2 := hide (A1.out.below hb (Nat.le_refl _))
              have B2 := hide (B1.out.below hb (Nat.le_refl _))
              have C2 := hide (C1.out.below hb (Nat.le_refl _))
              clear HB1 hb A1 B1 C1
              go_wp2_with fail
              refine (sees_clock _ _ xs ys _ A2.out B2.out).mono ?_
              rintro e w3 ⟨rfl, hb⟩
              have HB3 := hide (below_step HB2.out hb)
              have A3 := hide (A2.out.below hb (Nat.le_refl _))
              have B3 := hide (B2.out.below hb (Nat.le_refl _))
              have C3 := hide (C2.out.below hb (Nat.le_refl _))
              clear HB2 hb A2 B2 C2
              go_wp2_with fail
              refine (sees_clock _ _ ys zs _ B3.out C3.out).mono ?_
              rintro e w4 ⟨rfl, hb⟩
              have HB4 := hide (below_step HB3.out hb)
              have A4 := hide (A3.out.below hb (Nat.le_refl _))
              have B4 := hide (B3.out.below hb (Nat.le_refl _))
              have C4 := hide (C3.out.below hb (Nat.le_refl _))
              clear HB3 hb A3 B3 C3
              go_wp2_with fail
              refine (sees_clock _ _ xs zs _ A4.out C4.out).mono ?_
              rintro e w5 ⟨rfl, hb⟩
              have HB5 := hide (below_step HB4.out hb)
              have A5 := hide (A4.out.below hb (Nat.le_refl _))
              have B5 := hide (B4.out.below hb (Nat.le_refl _))
              have C5 := hide (C4.out.below hb (Nat.le_refl _))
              clear HB4 hb A4 B4 C4
              go_wp2_with fail
              refine (sees_clock _ _ xs ys _ A5.out B5.out).mono ?_
              rintro e w6 ⟨rfl, hb⟩
              have HB6 := hide (below_step HB5.out hb)
              have A6 := hide (A5.out.below hb (Nat.le_refl _))
              have B6 := hide (B5.out.below hb (Nat.le_refl _))
              have C6 := hide (C5.out.below hb (Nat.le_refl _))
              clear HB5 hb A5 B5 C5
              go_wp2_with fail
              refine (sees_clock _ _ ys xs _ B6.out A6.out).mono ?_
              rintro e w7 ⟨rfl, hb⟩
              have HB7 := hide (below_step HB6.out hb)
              have A7 := hide (A6.out.below hb (Nat.le_refl _))
              have B7 := hide (B6.out.below hb (Nat.le_refl _))
              have C7 := hide (C6.out.below hb (Nat.le_refl _))
              clear HB6 hb A6 B6 C6
              go_wp2_with fail
              refine (same_yes _ _ xs ys _ A7.out B7.out heq.out).mono ?_
              rintro e w8 ⟨rfl, hb⟩
              have HB8 := hide (below_step HB7.out hb)
              have A8 := hide (A7.out.below hb (Nat.le_refl _))
              have B8 := hide (B7.out.below hb (Nat.le_refl _))
              have C8 := hide (C7.out.below hb (Nat.le_refl _))
              clear HB7 hb A7 B7 C7
              go_wp2_with fail
              go_ret
              exact ⟨rfl, HB8.out⟩
        · have hab' : seesC xs ys = false := by simpa using hab
          clear hab
          go_enter Try.func4, Try.ntmps4
          go_wp2_with fail
          refine (alive_law _).mono ?_
          rintro e w1 ⟨rfl, hb⟩
          have HB1 := hide (below_step HB0.out hb)
          have A1 := hide (A0.out.below hb (Nat.le_refl _))
          have B1 := hide (B0.out.below hb (Nat.le_refl _))
          have C1 := hide (C0.out.below hb (Nat.le_refl _))
          clear HB0 hb A0 B0 C0
          go_wp2_with fail
          refine (wrong_clock _ xs _ _ A1.out).mono ?_
          rintro e w' ⟨rfl, hw'⟩
          rw [hw']; clear hw' w'
          go_wp2_with fail
          refine (wrong_clock _ ys _ _ B1.out).mono ?_
          rintro e w' ⟨rfl, hw'⟩
          rw [hw']; clear hw' w'
          go_wp2_with fail
          refine (wrong_clock _ zs _ _ C1.out).mono ?_
          rintro e w' ⟨rfl, hw'⟩
          rw [hw']; clear hw' w'
          go_wp2_with fail
          refine (sees_clock _ _ xs xs _ A1.out A1.out).mono ?_
          rintro e w2 ⟨rfl, hb⟩
          have HB2 := hide (below_step HB1.out hb)
          have A2 := hide (A1.out.below hb (Nat.le_refl _))
          have B2 := hide (B1.out.below hb (Nat.le_refl _))
          have C2 := hide (C1.out.below hb (Nat.le_refl _))
          clear HB1 hb A1 B1 C1
          go_wp2_with fail
          refine (sees_clock _ _ xs ys _ A2.out B2.out).mono ?_
          rintro e w3 ⟨rfl, hb⟩
          have HB3 := hide (below_step HB2.out hb)
          have A3 := hide (A2.out.below hb (Nat.le_refl _))
          have B3 := hide (B2.out.below hb (Nat.le_refl _))
          have C3 := hide (C2.out.below hb (Nat.le_refl _))
          clear HB2 hb A2 B2 C2
          go_wp2_with fail
          refine (sees_clock _ _ xs ys _ A3.out B3.out).mono ?_
          rintro e w4 ⟨rfl, hb⟩
          have HB4 := hide (below_step HB3.out hb)
          have A4 := hide (A3.out.below hb (Nat.le_refl _))
          have B4 := hide (B3.out.below hb (Nat.le_refl _))
          have C4 := hide (C3.out.below hb (Nat.le_refl _))
          clear HB3 hb A3 B3 C3
          go_wp2_with fail
          go_ret
          exact ⟨rfl, HB4.out⟩
      · have hne : (wrongC zs xs.length != 0) = true := by simp [h3]
        clear h3
        go_enter Try.func4, Try.ntmps4
        go_wp2_with fail
        refine (alive_law _).mono ?_
        rintro e w1 ⟨rfl, hb⟩
        have HB1 := hide (below_step HB0.out hb)
        have A1 := hide (A0.out.below hb (Nat.le_refl _))
        have B1 := hide (B0.out.below hb (Nat.le_refl _))
        have C1 := hide (C0.out.below hb (Nat.le_refl _))
        clear HB0 hb A0 B0 C0
        go_wp2_with fail
        refine (wrong_clock _ xs _ _ A1.out).mono ?_
        rintro e w' ⟨rfl, hw'⟩
        rw [hw']; clear hw' w'
        go_wp2_with fail
        refine (wrong_clock _ ys _ _ B1.out).mono ?_
        rintro e w' ⟨rfl, hw'⟩
        rw [hw']; clear hw' w'
        go_wp2_with fail
        refine (wrong_clock _ zs _ _ C1.out).mono ?_
        rintro e w' ⟨rfl, hw'⟩
        rw [hw']; clear hw' w'
        go_wp2_with fail
        go_ret
        exact ⟨rfl, HB1.out⟩
    · have hne : (wrongC ys xs.length != 0) = true := by simp [h2]
      clear h2
      go_enter Try.func4, Try.ntmps4
      go_wp2_with fail
      refine (alive_law _).mono ?_
      rintro e w1 ⟨rfl, hb⟩
      have HB1 := hide (below_step HB0.out hb)
      have A1 := hide (A0.out.below hb (Nat.le_refl _))
      have B1 := hide (B0.out.below hb (Nat.le_refl _))
      have C1 := hide (C0.out.below hb (Nat.le_refl _))
      clear HB0 hb A0 B0 C0
      go_wp2_with fail
      refine (wrong_clock _ xs _ _ A1.out).mono ?_
      rintro e w' ⟨rfl, hw'⟩
      rw [hw']; clear hw' w'
      go_wp2_with fail
      refine (wrong_clock _ ys _ _ B1.out).mono ?_
      rintro e w' ⟨rfl, hw'⟩
      rw [hw']; clear hw' w'
      go_wp2_with fail
      go_ret
      exact ⟨rfl, HB1.out⟩
  · have hne : (wrongC xs xs.length != 0) = true := by simp [h1]
    clear h1
    go_enter Try.func4, Try.ntmps4
    go_wp2_with fail
    refine (alive_law _).mono ?_
    rintro e w1 ⟨rfl, hb⟩
    have HB1 := hide (below_step HB0.out hb)
    have A1 := hide (A0.out.below hb (Nat.le_refl _))
    have B1 := hide (B0.out.below hb (Nat.le_refl _))
    have C1 := hide (C0.out.below hb (Nat.le_refl _))
    clear HB0 hb A0 B0 C0
    go_wp2_with fail
    refine (wrong_clock _ xs _ _ A1.out).mono ?_
    rintro e w' ⟨rfl, hw'⟩
    rw [hw']; clear hw' w'
    go_wp2_with fail
    go_ret
    exact ⟨rfl, HB1.out⟩
end Go.Proofs.Ytiomdleoafakkaa
