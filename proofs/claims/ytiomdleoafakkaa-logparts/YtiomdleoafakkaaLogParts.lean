/- The statement LogParts of the third chapter, as a walk: it answers true for every base, log, number and place. -/
import Derived.Test.YtiomdleoafakkaaLogPure
import Derived.Test.YtiomdleoafakkaaAlive4
namespace Go.Proofs.Ytiomdleoafakkaa
open Go.RowKit

set_option maxRecDepth 100000 in
set_option maxHeartbeats 4000000 in
theorem parts_law (v lv : Value) (xs : List Int) (l : List Upd) (n i : Int) (w0 : World) (h : Row w0 v xs) (hl : LogV w0 lv l) :
    Calls Try.prog 11 #[v, lv, .int .i64 n, .int .i64 i] w0 fun e w' => e = .returned (.bool true) ∧ Below w0.heap.size w0 w' := by
  have hlen := hl.len_le
  obtain ⟨a, cap, rfl, -, -, -⟩ := id h
  obtain ⟨a', cap', rfl, hcap, hmax, -⟩ := id hl
  have C0 := hide h
  have L0 := hide hl
  have HB0 := hide (Below.refl w0.heap.size w0)
  obtain ⟨E, HE⟩ : ∃ E, Hid (clockE xs l n = E) := ⟨_, rfl⟩
  obtain ⟨A, HA⟩ : ∃ A, Hid (clockA xs l n = A) := ⟨_, rfl⟩
  obtain ⟨X, HX⟩ : ∃ X, Hid (clockX xs l n = X) := ⟨_, rfl⟩
  clear h hl
  rcases (show i < 0 ∨ (0 ≤ i ∧ (l.length : Int) < i) ∨ (0 ≤ i ∧ i ≤ l.length ∧ E = 5) ∨ (0 ≤ i ∧ i ≤ l.length ∧ E ≠ 5) by omega) with hi | ⟨hi, hi2⟩ | ⟨hi, hi2, hi3⟩ | ⟨hi, hi2, hi3⟩
  · clear hlen hcap hmax
    go_enter Try.func11, Try.ntmps11
    go_wp2_with fail
    refine (alive3 _).mono ?_
    rintro e w1 ⟨rfl, hb⟩
    have HB1 := hide (below_step HB0.out hb)
    have C1 := hide (C0.out.below hb (Nat.le_refl _))
    have L1 := hide (L0.out.below hb (Nat.le_refl _))
    clear HB0 hb C0 L0
    go_wp2_with fail
    refine (clock_log _ _ xs l n _ C1.out L1.out).mono ?_
    rintro e w2 ⟨vK, rfl, hK, hb⟩
    have HB2 := hide (below_step HB1.out hb)
    have C2 := hide (C1.out.below hb (Nat.le_refl _))
    have L2 := hide (L1.out.below hb (Nat.le_refl _))
    have K2 := hide hK
    clear HB1 hb C1 L1
    rw [HE.out, HA.out]
    rw [HX.out] at K2 hK
    obtain ⟨aK, cK, rfl, -, -, -⟩ := hK
    have HB3 := hide (below_step HB2.out (Below.plus (Below.refl _ w2) (.cells #[.int .i64 E, .int .i64 A] 50)))
    have C3 := hide (C2.out.below (Below.plus (Below.refl _ w2) (.cells #[.int .i64 E, .int .i64 A] 50)) (Nat.le_refl _))
    have L3 := hide (L2.out.below (Below.plus (Below.refl _ w2) (.cells #[.int .i64 E, .int .i64 A] 50)) (Nat.le_refl _))
    have K3 := hide (K2.out.below (Below.plus (Below.refl _ w2) (.cells #[.int .i64 E, .int .i64 A] 50)) (Nat.le_refl _))
    have F3 := hide (Box.new w2 [.int .i64 E, .int .i64 A] 50)
    clear HB2 C2 L2 K2
    have cF0 := F3.out.get 0 rfl
    have cF1 := F3.out.get 1 rfl
    go_wp2_with fail
    go_ret
    exact ⟨rfl, HB3.out⟩
  · clear hlen hcap hmax
    go_enter Try.func11, Try.ntmps11
    go_wp2_with fail
    refine (alive3 _).mono ?_
    rintro e w1 ⟨rfl, hb⟩
    have HB1 := hide (below_step HB0.out hb)
    have C1 := hide (C0.out.below hb (Nat.le_refl _))
    have L1 := hide (L0.out.below hb (Nat.le_refl _))
    clear HB0 hb C0 L0
    go_wp2_with fail
    refine (clock_log _ _ xs l n _ C1.out L1.out).mono ?_
    rintro e w2 ⟨vK, rfl, hK, hb⟩
    have HB2 := hide (below_step HB1.out hb)
    have C2 := hide (C1.out.below hb (Nat.le_refl _))
    have L2 := hide (L1.out.below hb (Nat.le_refl _))
    have K2 := hide hK
    clear HB1 hb C1 L1
    rw [HE.out, HA.out]
    rw [HX.out] at K2 hK
    obtain ⟨aK, cK, rfl, -, -, -⟩ := hK
    have HB3 := hide (below_step HB2.out (Below.plus (Below.refl _ w2) (.cells #[.int .i64 E, .int .i64 A] 50)))
    have C3 := hide (C2.out.below (Below.plus (Below.refl _ w2) (.cells #[.int .i64 E, .int .i64 A] 50)) (Nat.le_refl _))
    have L3 := hide (L2.out.below (Below.plus (Below.refl _ w2) (.cells #[.int .i64 E, .int .i64 A] 50)) (Nat.le_refl _))
    have K3 := hide (K2.out.below (Below.plus (Below.refl _ w2) (.cells #[.int .i64 E, .int .i64 A] 50)) (Nat.le_refl _))
    have F3 := hide (Box.new w2 [.int .i64 E, .int .i64 A] 50)
    clear HB2 C2 L2 K2
    have cF0 := F3.out.get 0 rfl
    have cF1 := F3.out.get 1 rfl
    go_wp2_with fail
    go_ret
    exact ⟨rfl, HB3.out⟩
  · have h2 : ¬ (l.length : Int) < i := by omega
    subst hi3
    clear hlen hcap hmax
    go_enter Try.func11, Try.ntmps11
    go_wp2_with fail
    refine (alive3 _).mono ?_
    rintro e w1 ⟨rfl, hb⟩
    have HB1 := hide (below_step HB0.out hb)
    have C1 := hide (C0.out.below hb (Nat.le_refl _))
    have L1 := hide (L0.out.below hb (Nat.le_refl _))
    clear HB0 hb C0 L0
    go_wp2_with fail
    refine (clock_log _ _ xs l n _ C1.out L1.out).mono ?_
    rintro e w2 ⟨vK, rfl, hK, hb⟩
    have HB2 := hide (below_step HB1.out hb)
    have C2 := hide (C1.out.below hb (Nat.le_refl _))
    have L2 := hide (L1.out.below hb (Nat.le_refl _))
    have K2 := hide hK
    clear HB1 hb C1 L1
    rw [HE.out, HA.out]
    rw [HX.out] at K2 hK
    obtain ⟨aK, cK, rfl, -, -, -⟩ := hK
    have HB3 := hide (below_step HB2.out (Below.plus (Below.refl _ w2) (.cells #[.int .i64 5, .int .i64 A] 50)))
    have C3 := hide (C2.out.below (Below.plus (Below.refl _ w2) (.cells #[.int .i64 5, .int .i64 A] 50)) (Nat.le_refl _))
    have L3 := hide (L2.out.below (Below.plus (Below.refl _ w2) (.cells #[.int .i64 5, .int .i64 A] 50)) (Nat.le_refl _))
    have K3 := hide (K2.out.below (Below.plus (Below.refl _ w2) (.cells #[.int .i64 5, .int .i64 A] 50)) (Nat.le_refl _))
    have F3 := hide (Box.new w2 [.int .i64 5, .int .i64 A] 50)
    clear HB2 C2 L2 K2
    have cF0 := F3.out.get 0 rfl
    have cF1 := F3.out.get 1 rfl
    go_wp2_with fail
    go_ret
    exact ⟨rfl, HB3.out⟩
  · obtain ⟨m, rfl⟩ : ∃ m : Nat, i = m := ⟨i.toNat, by omega⟩
    have hm : m ≤ l.length := by omega
    have hmc : (m : Int) ≤ (cap' : Int) := by omega
    have hi4 : (E == 5) = false := by simp [hi3]
    have h2 : ¬ (l.length : Int) < (m : Int) := by omega
    obtain ⟨E1, HE1⟩ : ∃ E, Hid (clockE xs (l.take m) n = E) := ⟨_, rfl⟩
    obtain ⟨A1, HA1⟩ : ∃ A, Hid (clockA xs (l.take m) n = A) := ⟨_, rfl⟩
    obtain ⟨X1, HX1⟩ : ∃ X, Hid (clockX xs (l.take m) n = X) := ⟨_, rfl⟩
    by_cases hE1 : E1 = 0
    · subst hE1
      obtain ⟨p1, p2, p3⟩ := parts_second hm (by rw [HE.out]; exact hi3) HE1.out
      rw [HX1.out] at p1 p2 p3
      obtain ⟨E2, HE2⟩ : ∃ E, Hid (clockE X1 (l.drop m) n = E) := ⟨_, rfl⟩
      obtain ⟨A2, HA2⟩ : ∃ A, Hid (clockA X1 (l.drop m) n = A) := ⟨_, rfl⟩
      obtain ⟨X2, HX2⟩ : ∃ X, Hid (clockX X1 (l.drop m) n = X) := ⟨_, rfl⟩
      rw [HE2.out, HE.out] at p1
      rw [HE.out, HA2.out, HA.out] at p2
      rw [HE.out, HX2.out, HX.out] at p3
      subst p1
      have hee : (E2 == E2) = true := by simp
      by_cases hE : E2 = 0
      · subst hE
        obtain ⟨q1, q2⟩ := p3 rfl
        subst q1
        have HQ2 := hide q2
        clear p2 p3 q2 hi3
        by_cases hcm : m = cap'
        · subst hcm
          go_enter Try.func11, Try.ntmps11
          go_wp2_with fail
          refine (alive3 _).mono ?_
          rintro e w1 ⟨rfl, hb⟩
          have HB1 := hide (below_step HB0.out hb)
          have C1 := hide (C0.out.below hb (Nat.le_refl _))
          have L1 := hide (L0.out.below hb (Nat.le_refl _))
          clear HB0 hb C0 L0
          go_wp2_with fail
          refine (clock_log _ _ xs l n _ C1.out L1.out).mono ?_
          rintro e w2 ⟨vK, rfl, hK, hb⟩
          have HB2 := hide (below_step HB1.out hb)
          have C2 := hide (C1.out.below hb (Nat.le_refl _))
          have L2 := hide (L1.out.below hb (Nat.le_refl _))
          have K2 := hide hK
          clear HB1 hb C1 L1
          rw [HE.out, HA.out]
          rw [HX.out] at K2 hK
          obtain ⟨aK, cK, rfl, -, -, -⟩ := hK
          have HB3 := hide (below_step HB2.out (Below.plus (Below.refl _ w2) (.cells #[.int .i64 0, .int .i64 A] 50)))
          have C3 := hide (C2.out.below (Below.plus (Below.refl _ w2) (.cells #[.int .i64 0, .int .i64 A] 50)) (Nat.le_refl _))
          have L3 := hide (L2.out.below (Below.plus (Below.refl _ w2) (.cells #[.int .i64 0, .int .i64 A] 50)) (Nat.le_refl _))
          have K3 := hide (K2.out.below (Below.plus (Below.refl _ w2) (.cells #[.int .i64 0, .int .i64 A] 50)) (Nat.le_refl _))
          have F3 := hide (Box.new w2 [.int .i64 0, .int .i64 A] 50)
          clear HB2 C2 L2 K2
          have cF0 := F3.out.get 0 rfl
          have cF1 := F3.out.get 1 rfl
          clear cF0 cF1
          go_wp2_with fail
          refine (clock_log _ _ xs (l.take m) n _ C3.out (L3.out.take hm)).mono ?_
          rintro e w4 ⟨vP, rfl, hP, hb⟩
          have HB4 := hide (below_step HB3.out hb)
          have C4 := hide (C3.out.below hb (Nat.le_refl _))
          have L4 := hide (L3.out.below hb (Nat.le_refl _))
          have K4 := hide (K3.out.below hb (Nat.le_refl _))
          have F4 := hide (F3.out.below hb (Nat.le_refl _))
          have P4 := hide hP
          clear HB3 hb C3 L3 K3 F3
          rw [HE1.out, HA1.out]
          rw [HX1.out] at P4 hP
          obtain ⟨aP, cP, rfl, -, -, -⟩ := hP
          have HB5 := hide (below_step HB4.out (Below.plus (Below.refl _ w4) (.cells #[.int .i64 0, .int .i64 A1] 50)))
          have C5 := hide (C4.out.below (Below.plus (Below.refl _ w4) (.cells #[.int .i64 0, .int .i64 A1] 50)) (Nat.le_refl _))
          have L5 := hide (L4.out.below (Below.plus (Below.refl _ w4) (.cells #[.int .i64 0, .int .i64 A1] 50)) (Nat.le_refl _))
          have K5 := hide (K4.out.below (Below.plus (Below.refl _ w4) (.cells #[.int .i64 0, .int .i64 A1] 50)) (Nat.le_refl _))
          have F5 := hide (F4.out.below (Below.plus (Below.refl _ w4) (.cells #[.int .i64 0, .int .i64 A1] 50)) (Nat.le_refl _))
          have P5 := hide (P4.out.below (Below.plus (Below.refl _ w4) (.cells #[.int .i64 0, .int .i64 A1] 50)) (Nat.le_refl _))
          have G5 := hide (Box.new w4 [.int .i64 0, .int .i64 A1] 50)
          clear HB4 C4 L4 K4 F4 P4
          have cF0 := F5.out.get 0 rfl
          have cF1 := F5.out.get 1 rfl
          have cG0 := G5.out.get 0 rfl
          have cG1 := G5.out.get 1 rfl
          clear cF0 cF1 cG0 cG1
          go_wp2_with fail
          refine (clock_log _ _ X1 (l.drop m) n _ P5.out (L5.out.dropB)).mono ?_
          rintro e w6 ⟨vQ, rfl, hQ, hb⟩
          have HB6 := hide (below_step HB5.out hb)
          have C6 := hide (C5.out.below hb (Nat.le_refl _))
          have L6 := hide (L5.out.below hb (Nat.le_refl _))
          have K6 := hide (K5.out.below hb (Nat.le_refl _))
          have F6 := hide (F5.out.below hb (Nat.le_refl _))
          have P6 := hide (P5.out.below hb (Nat.le_refl _))
          have G6 := hide (G5.out.below hb (Nat.le_refl _))
          have Q6 := hide hQ
          clear HB5 hb C5 L5 K5 F5 P5 G5
          rw [HE2.out, HA2.out]
          rw [HX2.out] at Q6 hQ
          obtain ⟨aQ, cQ, rfl, -, -, -⟩ := hQ
          have HB7 := hide (below_step HB6.out (Below.plus (Below.refl _ w6) (.cells #[.int .i64 0, .int .i64 A2] 50)))
          have C7 := hide (C6.out.below (Below.plus (Below.refl _ w6) (.cells #[.int .i64 0, .int .i64 A2] 50)) (Nat.le_refl _))
          have L7 := hide (L6.out.below (Below.plus (Below.refl _ w6) (.cells #[.int .i64 0, .int .i64 A2] 50)) (Nat.le_refl _))
          have K7 := hide (K6.out.below (Below.plus (Below.refl _ w6) (.cells #[.int .i64 0, .int .i64 A2] 50)) (Nat.le_refl _))
          have F7 := hide (F6.out.below (Below.plus (Below.refl _ w6) (.cells #[.int .i64 0, .int .i64 A2] 50)) (Nat.le_refl _))
          have P7 := hide (P6.out.below (Below.plus (Below.refl _ w6) (.cells #[.int .i64 0, .int .i64 A2] 50)) (Nat.le_refl _))
          have G7 := hide (G6.out.below (Below.plus (Below.refl _ w6) (.cells #[.int .i64 0, .int .i64 A2] 50)) (Nat.le_refl _))
          have Q7 := hide (Q6.out.below (Below.plus (Below.refl _ w6) (.cells #[.int .i64 0, .int .i64 A2] 50)) (Nat.le_refl _))
          have H7 := hide (Box.new w6 [.int .i64 0, .int .i64 A2] 50)
          clear HB6 C6 L6 K6 F6 P6 G6 Q6
          have cF0 := F7.out.get 0 rfl
          have cF1 := F7.out.get 1 rfl
          have cG0 := G7.out.get 0 rfl
          have cG1 := G7.out.get 1 rfl
          have cH0 := H7.out.get 0 rfl
          have cH1 := H7.out.get 1 rfl
          go_wp2_with fail
          refine (same_yes _ _ X2 X2 _ Q7.out K7.out rfl).mono ?_
          rintro e w8 ⟨rfl, hb⟩
          have HB8 := hide (below_step HB7.out hb)
          have C8 := hide (C7.out.below hb (Nat.le_refl _))
          have L8 := hide (L7.out.below hb (Nat.le_refl _))
          have K8 := hide (K7.out.below hb (Nat.le_refl _))
          have F8 := hide (F7.out.below hb (Nat.le_refl _))
          have P8 := hide (P7.out.below hb (Nat.le_refl _))
          have G8 := hide (G7.out.below hb (Nat.le_refl _))
          have Q8 := hide (Q7.out.below hb (Nat.le_refl _))
          have H8 := hide (H7.out.below hb (Nat.le_refl _))
          clear HB7 hb C7 L7 K7 F7 P7 G7 Q7 H7
          go_wp2_with fail
          refine (sees_clock _ _ X2 X1 _ K8.out P8.out).mono ?_
          rintro e w9 ⟨rfl, hb⟩
          have HB9 := hide (below_step HB8.out hb)
          have C9 := hide (C8.out.below hb (Nat.le_refl _))
          have L9 := hide (L8.out.below hb (Nat.le_refl _))
          have K9 := hide (K8.out.below hb (Nat.le_refl _))
          have F9 := hide (F8.out.below hb (Nat.le_refl _))
          have P9 := hide (P8.out.below hb (Nat.le_refl _))
          have G9 := hide (G8.out.below hb (Nat.le_refl _))
          have Q9 := hide (Q8.out.below hb (Nat.le_refl _))
          have H9 := hide (H8.out.below hb (Nat.le_refl _))
          clear HB8 hb C8 L8 K8 F8 P8 G8 Q8 H8
          rw [HQ2.out]
          go_wp2_with fail
          go_ret
          exact ⟨rfl, HB9.out⟩
        · have hcm' : ¬ cap' = m := fun e => hcm e.symm
          go_enter Try.func11, Try.ntmps11
          go_wp2_with fail
          refine (alive3 _).mono ?_
          rintro e w1 ⟨rfl, hb⟩
          have HB1 := hide (below_step HB0.out hb)
          have C1 := hide (C0.out.below hb (Nat.le_refl _))
          have L1 := hide (L0.out.below hb (Nat.le_refl _))
          clear HB0 hb C0 L0
          go_wp2_with fail
          refine (clock_log _ _ xs l n _ C1.out L1.out).mono ?_
          rintro e w2 ⟨vK, rfl, hK, hb⟩
          have HB2 := hide (below_step HB1.out hb)
          have C2 := hide (C1.out.below hb (Nat.le_refl _))
          have L2 := hide (L1.out.below hb (Nat.le_refl _))
          have K2 := hide hK
          clear HB1 hb C1 L1
          rw [HE.out, HA.out]
          rw [HX.out] at K2 hK
          obtain ⟨aK, cK, rfl, -, -, -⟩ := hK
          have HB3 := hide (below_step HB2.out (Below.plus (Below.refl _ w2) (.cells #[.int .i64 0, .int .i64 A] 50)))
          have C3 := hide (C2.out.below (Below.plus (Below.refl _ w2) (.cells #[.int .i64 0, .int .i64 A] 50)) (Nat.le_refl _))
          have L3 := hide (L2.out.below (Below.plus (Below.refl _ w2) (.cells #[.int .i64 0, .int .i64 A] 50)) (Nat.le_refl _))
          have K3 := hide (K2.out.below (Below.plus (Below.refl _ w2) (.cells #[.int .i64 0, .int .i64 A] 50)) (Nat.le_refl _))
          have F3 := hide (Box.new w2 [.int .i64 0, .int .i64 A] 50)
          clear HB2 C2 L2 K2
          have cF0 := F3.out.get 0 rfl
          have cF1 := F3.out.get 1 rfl
          clear cF0 cF1
          go_wp2_with fail
          refine (clock_log _ _ xs (l.take m) n _ C3.out (L3.out.take hm)).mono ?_
          rintro e w4 ⟨vP, rfl, hP, hb⟩
          have HB4 := hide (below_step HB3.out hb)
          have C4 := hide (C3.out.below hb (Nat.le_refl _))
          have L4 := hide (L3.out.below hb (Nat.le_refl _))
          have K4 := hide (K3.out.below hb (Nat.le_refl _))
          have F4 := hide (F3.out.below hb (Nat.le_refl _))
          have P4 := hide hP
          clear HB3 hb C3 L3 K3 F3
          rw [HE1.out, HA1.out]
          rw [HX1.out] at P4 hP
          obtain ⟨aP, cP, rfl, -, -, -⟩ := hP
          have HB5 := hide (below_step HB4.out (Below.plus (Below.refl _ w4) (.cells #[.int .i64 0, .int .i64 A1] 50)))
          have C5 := hide (C4.out.below (Below.plus (Below.refl _ w4) (.cells #[.int .i64 0, .int .i64 A1] 50)) (Nat.le_refl _))
          have L5 := hide (L4.out.below (Below.plus (Below.refl _ w4) (.cells #[.int .i64 0, .int .i64 A1] 50)) (Nat.le_refl _))
          have K5 := hide (K4.out.below (Below.plus (Below.refl _ w4) (.cells #[.int .i64 0, .int .i64 A1] 50)) (Nat.le_refl _))
          have F5 := hide (F4.out.below (Below.plus (Below.refl _ w4) (.cells #[.int .i64 0, .int .i64 A1] 50)) (Nat.le_refl _))
          have P5 := hide (P4.out.below (Below.plus (Below.refl _ w4) (.cells #[.int .i64 0, .int .i64 A1] 50)) (Nat.le_refl _))
          have G5 := hide (Box.new w4 [.int .i64 0, .int .i64 A1] 50)
          clear HB4 C4 L4 K4 F4 P4
          have cF0 := F5.out.get 0 rfl
          have cF1 := F5.out.get 1 rfl
          have cG0 := G5.out.get 0 rfl
          have cG1 := G5.out.get 1 rfl
          clear cF0 cF1 cG0 cG1
          go_wp2_with fail
          refine (clock_log _ _ X1 (l.drop m) n _ P5.out (L5.out.dropA hm)).mono ?_
          rintro e w6 ⟨vQ, rfl, hQ, hb⟩
          have HB6 := hide (below_step HB5.out hb)
          have C6 := hide (C5.out.below hb (Nat.le_refl _))
          have L6 := hide (L5.out.below hb (Nat.le_refl _))
          have K6 := hide (K5.out.below hb (Nat.le_refl _))
          have F6 := hide (F5.out.below hb (Nat.le_refl _))
          have P6 := hide (P5.out.below hb (Nat.le_refl _))
          have G6 := hide (G5.out.below hb (Nat.le_refl _))
          have Q6 := hide hQ
          clear HB5 hb C5 L5 K5 F5 P5 G5
          rw [HE2.out, HA2.out]
          rw [HX2.out] at Q6 hQ
          obtain ⟨aQ, cQ, rfl, -, -, -⟩ := hQ
          have HB7 := hide (below_step HB6.out (Below.plus (Below.refl _ w6) (.cells #[.int .i64 0, .int .i64 A2] 50)))
          have C7 := hide (C6.out.below (Below.plus (Below.refl _ w6) (.cells #[.int .i64 0, .int .i64 A2] 50)) (Nat.le_refl _))
          have L7 := hide (L6.out.below (Below.plus (Below.refl _ w6) (.cells #[.int .i64 0, .int .i64 A2] 50)) (Nat.le_refl _))
          have K7 := hide (K6.out.below (Below.plus (Below.refl _ w6) (.cells #[.int .i64 0, .int .i64 A2] 50)) (Nat.le_refl _))
          have F7 := hide (F6.out.below (Below.plus (Below.refl _ w6) (.cells #[.int .i64 0, .int .i64 A2] 50)) (Nat.le_refl _))
          have P7 := hide (P6.out.below (Below.plus (Below.refl _ w6) (.cells #[.int .i64 0, .int .i64 A2] 50)) (Nat.le_refl _))
          have G7 := hide (G6.out.below (Below.plus (Below.refl _ w6) (.cells #[.int .i64 0, .int .i64 A2] 50)) (Nat.le_refl _))
          have Q7 := hide (Q6.out.below (Below.plus (Below.refl _ w6) (.cells #[.int .i64 0, .int .i64 A2] 50)) (Nat.le_refl _))
          have H7 := hide (Box.new w6 [.int .i64 0, .int .i64 A2] 50)
          clear HB6 C6 L6 K6 F6 P6 G6 Q6
          have cF0 := F7.out.get 0 rfl
          have cF1 := F7.out.get 1 rfl
          have cG0 := G7.out.get 0 rfl
          have cG1 := G7.out.get 1 rfl
          have cH0 := H7.out.get 0 rfl
          have cH1 := H7.out.get 1 rfl
          go_wp2_with fail
          refine (same_yes _ _ X2 X2 _ Q7.out K7.out rfl).mono ?_
          rintro e w8 ⟨rfl, hb⟩
          have HB8 := hide (below_step HB7.out hb)
          have C8 := hide (C7.out.below hb (Nat.le_refl _))
          have L8 := hide (L7.out.below hb (Nat.le_refl _))
          have K8 := hide (K7.out.below hb (Nat.le_refl _))
          have F8 := hide (F7.out.below hb (Nat.le_refl _))
          have P8 := hide (P7.out.below hb (Nat.le_refl _))
          have G8 := hide (G7.out.below hb (Nat.le_refl _))
          have Q8 := hide (Q7.out.below hb (Nat.le_refl _))
          have H8 := hide (H7.out.below hb (Nat.le_refl _))
          clear HB7 hb C7 L7 K7 F7 P7 G7 Q7 H7
          go_wp2_with fail
          refine (sees_clock _ _ X2 X1 _ K8.out P8.out).mono ?_
          rintro e w9 ⟨rfl, hb⟩
          have HB9 := hide (below_step HB8.out hb)
          have C9 := hide (C8.out.below hb (Nat.le_refl _))
          have L9 := hide (L8.out.below hb (Nat.le_refl _))
          have K9 := hide (K8.out.below hb (Nat.le_refl _))
          have F9 := hide (F8.out.below hb (Nat.le_refl _))
          have P9 := hide (P8.out.below hb (Nat.le_refl _))
          have G9 := hide (G8.out.below hb (Nat.le_refl _))
          have Q9 := hide (Q8.out.below hb (Nat.le_refl _))
          have H9 := hide (H8.out.below hb (Nat.le_refl _))
          clear HB8 hb C8 L8 K8 F8 P8 G8 Q8 H8
          rw [HQ2.out]
          go_wp2_with fail
          go_ret
          exact ⟨rfl, HB9.out⟩
      · obtain ⟨q1, q2, q3⟩ := p2 hE
        have hne : (E2 != 0) = true := by simp [hE]
        have hwr : IntKind.i64.wrap (A - (m : Int)) = A2 := by rw [q1]; exact wrapS (by omega) (by omega)
        have haa : (A2 == A2) = true := by simp
        clear p2 p3 q1 q2 q3 hi3
        have hne2 : (E2 == 0) = false := by simp [hE]
        clear hE
        by_cases hcm : m = cap'
        · subst hcm
          go_enter Try.func11, Try.ntmps11
          go_wp2_with fail
          refine (alive3 _).mono ?_
          rintro e w1 ⟨rfl, hb⟩
          have HB1 := hide (below_step HB0.out hb)
          have C1 := hide (C0.out.below hb (Nat.le_refl _))
          have L1 := hide (L0.out.below hb (Nat.le_refl _))
          clear HB0 hb C0 L0
          go_wp2_with fail
          refine (clock_log _ _ xs l n _ C1.out L1.out).mono ?_
          rintro e w2 ⟨vK, rfl, hK, hb⟩
          have HB2 := hide (below_step HB1.out hb)
          have C2 := hide (C1.out.below hb (Nat.le_refl _))
          have L2 := hide (L1.out.below hb (Nat.le_refl _))
          have K2 := hide hK
          clear HB1 hb C1 L1
          rw [HE.out, HA.out]
          rw [HX.out] at K2 hK
          obtain ⟨aK, cK, rfl, -, -, -⟩ := hK
          have HB3 := hide (below_step HB2.out (Below.plus (Below.refl _ w2) (.cells #[.int .i64 E2, .int .i64 A] 50)))
          have C3 := hide (C2.out.below (Below.plus (Below.refl _ w2) (.cells #[.int .i64 E2, .int .i64 A] 50)) (Nat.le_refl _))
          have L3 := hide (L2.out.below (Below.plus (Below.refl _ w2) (.cells #[.int .i64 E2, .int .i64 A] 50)) (Nat.le_refl _))
          have K3 := hide (K2.out.below (Below.plus (Below.refl _ w2) (.cells #[.int .i64 E2, .int .i64 A] 50)) (Nat.le_refl _))
          have F3 := hide (Box.new w2 [.int .i64 E2, .int .i64 A] 50)
          clear HB2 C2 L2 K2
          have cF0 := F3.out.get 0 rfl
          have cF1 := F3.out.get 1 rfl
          clear cF0 cF1
          go_wp2_with fail
          refine (clock_log _ _ xs (l.take m) n _ C3.out (L3.out.take hm)).mono ?_
          rintro e w4 ⟨vP, rfl, hP, hb⟩
          have HB4 := hide (below_step HB3.out hb)
          have C4 := hide (C3.out.below hb (Nat.le_refl _))
          have L4 := hide (L3.out.below hb (Nat.le_refl _))
          have K4 := hide (K3.out.below hb (Nat.le_refl _))
          have F4 := hide (F3.out.below hb (Nat.le_refl _))
          have P4 := hide hP
          clear HB3 hb C3 L3 K3 F3
          rw [HE1.out, HA1.out]
          rw [HX1.out] at P4 hP
          obtain ⟨aP, cP, rfl, -, -, -⟩ := hP
          have HB5 := hide (below_step HB4.out (Below.plus (Below.refl _ w4) (.cells #[.int .i64 0, .int .i64 A1] 50)))
          have C5 := hide (C4.out.below (Below.plus (Below.refl _ w4) (.cells #[.int .i64 0, .int .i64 A1] 50)) (Nat.le_refl _))
          have L5 := hide (L4.out.below (Below.plus (Below.refl _ w4) (.cells #[.int .i64 0, .int .i64 A1] 50)) (Nat.le_refl _))
          have K5 := hide (K4.out.below (Below.plus (Below.refl _ w4) (.cells #[.int .i64 0, .int .i64 A1] 50)) (Nat.le_refl _))
          have F5 := hide (F4.out.below (Below.plus (Below.refl _ w4) (.cells #[.int .i64 0, .int .i64 A1] 50)) (Nat.le_refl _))
          have P5 := hide (P4.out.below (Below.plus (Below.refl _ w4) (.cells #[.int .i64 0, .int .i64 A1] 50)) (Nat.le_refl _))
          have G5 := hide (Box.new w4 [.int .i64 0, .int .i64 A1] 50)
          clear HB4 C4 L4 K4 F4 P4
          have cF0 := F5.out.get 0 rfl
          have cF1 := F5.out.get 1 rfl
          have cG0 := G5.out.get 0 rfl
          have cG1 := G5.out.get 1 rfl
          clear cF0 cF1 cG0 cG1
          go_wp2_with fail
          refine (clock_log _ _ X1 (l.drop m) n _ P5.out (L5.out.dropB)).mono ?_
          rintro e w6 ⟨vQ, rfl, hQ, hb⟩
          have HB6 := hide (below_step HB5.out hb)
          have C6 := hide (C5.out.below hb (Nat.le_refl _))
          have L6 := hide (L5.out.below hb (Nat.le_refl _))
          have K6 := hide (K5.out.below hb (Nat.le_refl _))
          have F6 := hide (F5.out.below hb (Nat.le_refl _))
          have P6 := hide (P5.out.below hb (Nat.le_refl _))
          have G6 := hide (G5.out.below hb (Nat.le_refl _))
          have Q6 := hide hQ
          clear HB5 hb C5 L5 K5 F5 P5 G5
          rw [HE2.out, HA2.out]
          rw [HX2.out] at Q6 hQ
          obtain ⟨aQ, cQ, rfl, -, -, -⟩ := hQ
          have HB7 := hide (below_step HB6.out (Below.plus (Below.refl _ w6) (.cells #[.int .i64 E2, .int .i64 A2] 50)))
          have C7 := hide (C6.out.below (Below.plus (Below.refl _ w6) (.cells #[.int .i64 E2, .int .i64 A2] 50)) (Nat.le_refl _))
          have L7 := hide (L6.out.below (Below.plus (Below.refl _ w6) (.cells #[.int .i64 E2, .int .i64 A2] 50)) (Nat.le_refl _))
          have K7 := hide (K6.out.below (Below.plus (Below.refl _ w6) (.cells #[.int .i64 E2, .int .i64 A2] 50)) (Nat.le_refl _))
          have F7 := hide (F6.out.below (Below.plus (Below.refl _ w6) (.cells #[.int .i64 E2, .int .i64 A2] 50)) (Nat.le_refl _))
          have P7 := hide (P6.out.below (Below.plus (Below.refl _ w6) (.cells #[.int .i64 E2, .int .i64 A2] 50)) (Nat.le_refl _))
          have G7 := hide (G6.out.below (Below.plus (Below.refl _ w6) (.cells #[.int .i64 E2, .int .i64 A2] 50)) (Nat.le_refl _))
          have Q7 := hide (Q6.out.below (Below.plus (Below.refl _ w6) (.cells #[.int .i64 E2, .int .i64 A2] 50)) (Nat.le_refl _))
          have H7 := hide (Box.new w6 [.int .i64 E2, .int .i64 A2] 50)
          clear HB6 C6 L6 K6 F6 P6 G6 Q6
          have cF0 := F7.out.get 0 rfl
          have cF1 := F7.out.get 1 rfl
          have cG0 := G7.out.get 0 rfl
          have cG1 := G7.out.get 1 rfl
          have cH0 := H7.out.get 0 rfl
          have cH1 := H7.out.get 1 rfl
          go_wp2_with fail
          go_ret
          exact ⟨rfl, HB7.out⟩
        · have hcm' : ¬ cap' = m := fun e => hcm e.symm
          go_enter Try.func11, Try.ntmps11
          go_wp2_with fail
          refine (alive3 _).mono ?_
          rintro e w1 ⟨rfl, hb⟩
          have HB1 := hide (below_step HB0.out hb)
          have C1 := hide (C0.out.below hb (Nat.le_refl _))
          have L1 := hide (L0.out.below hb (Nat.le_refl _))
          clear HB0 hb C0 L0
          go_wp2_with fail
          refine (clock_log _ _ xs l n _ C1.out L1.out).mono ?_
          rintro e w2 ⟨vK, rfl, hK, hb⟩
          have HB2 := hide (below_step HB1.out hb)
          have C2 := hide (C1.out.below hb (Nat.le_refl _))
          have L2 := hide (L1.out.below hb (Nat.le_refl _))
          have K2 := hide hK
          clear HB1 hb C1 L1
          rw [HE.out, HA.out]
          rw [HX.out] at K2 hK
          obtain ⟨aK, cK, rfl, -, -, -⟩ := hK
          have HB3 := hide (below_step HB2.out (Below.plus (Below.refl _ w2) (.cells #[.int .i64 E2, .int .i64 A] 50)))
          have C3 := hide (C2.out.below (Below.plus (Below.refl _ w2) (.cells #[.int .i64 E2, .int .i64 A] 50)) (Nat.le_refl _))
          have L3 := hide (L2.out.below (Below.plus (Below.refl _ w2) (.cells #[.int .i64 E2, .int .i64 A] 50)) (Nat.le_refl _))
          have K3 := hide (K2.out.below (Below.plus (Below.refl _ w2) (.cells #[.int .i64 E2, .int .i64 A] 50)) (Nat.le_refl _))
          have F3 := hide (Box.new w2 [.int .i64 E2, .int .i64 A] 50)
          clear HB2 C2 L2 K2
          have cF0 := F3.out.get 0 rfl
          have cF1 := F3.out.get 1 rfl
          clear cF0 cF1
          go_wp2_with fail
          refine (clock_log _ _ xs (l.take m) n _ C3.out (L3.out.take hm)).mono ?_
          rintro e w4 ⟨vP, rfl, hP, hb⟩
          have HB4 := hide (below_step HB3.out hb)
          have C4 := hide (C3.out.below hb (Nat.le_refl _))
          have L4 := hide (L3.out.below hb (Nat.le_refl _))
          have K4 := hide (K3.out.below hb (Nat.le_refl _))
          have F4 := hide (F3.out.below hb (Nat.le_refl _))
          have P4 := hide hP
          clear HB3 hb C3 L3 K3 F3
          rw [HE1.out, HA1.out]
          rw [HX1.out] at P4 hP
          obtain ⟨aP, cP, rfl, -, -, -⟩ := hP
          have HB5 := hide (below_step HB4.out (Below.plus (Below.refl _ w4) (.cells #[.int .i64 0, .int .i64 A1] 50)))
          have C5 := hide (C4.out.below (Below.plus (Below.refl _ w4) (.cells #[.int .i64 0, .int .i64 A1] 50)) (Nat.le_refl _))
          have L5 := hide (L4.out.below (Below.plus (Below.refl _ w4) (.cells #[.int .i64 0, .int .i64 A1] 50)) (Nat.le_refl _))
          have K5 := hide (K4.out.below (Below.plus (Below.refl _ w4) (.cells #[.int .i64 0, .int .i64 A1] 50)) (Nat.le_refl _))
          have F5 := hide (F4.out.below (Below.plus (Below.refl _ w4) (.cells #[.int .i64 0, .int .i64 A1] 50)) (Nat.le_refl _))
          have P5 := hide (P4.out.below (Below.plus (Below.refl _ w4) (.cells #[.int .i64 0, .int .i64 A1] 50)) (Nat.le_refl _))
          have G5 := hide (Box.new w4 [.int .i64 0, .int .i64 A1] 50)
          clear HB4 C4 L4 K4 F4 P4
          have cF0 := F5.out.get 0 rfl
          have cF1 := F5.out.get 1 rfl
          have cG0 := G5.out.get 0 rfl
          have cG1 := G5.out.get 1 rfl
          clear cF0 cF1 cG0 cG1
          go_wp2_with fail
          refine (clock_log _ _ X1 (l.drop m) n _ P5.out (L5.out.dropA hm)).mono ?_
          rintro e w6 ⟨vQ, rfl, hQ, hb⟩
          have HB6 := hide (below_step HB5.out hb)
          have C6 := hide (C5.out.below hb (Nat.le_refl _))
          have L6 := hide (L5.out.below hb (Nat.le_refl _))
          have K6 := hide (K5.out.below hb (Nat.le_refl _))
          have F6 := hide (F5.out.below hb (Nat.le_refl _))
          have P6 := hide (P5.out.below hb (Nat.le_refl _))
          have G6 := hide (G5.out.below hb (Nat.le_refl _))
          have Q6 := hide hQ
          clear HB5 hb C5 L5 K5 F5 P5 G5
          rw [HE2.out, HA2.out]
          rw [HX2.out] at Q6 hQ
          obtain ⟨aQ, cQ, rfl, -, -, -⟩ := hQ
          have HB7 := hide (below_step HB6.out (Below.plus (Below.refl _ w6) (.cells #[.int .i64 E2, .int .i64 A2] 50)))
          have C7 := hide (C6.out.below (Below.plus (Below.refl _ w6) (.cells #[.int .i64 E2, .int .i64 A2] 50)) (Nat.le_refl _))
          have L7 := hide (L6.out.below (Below.plus (Below.refl _ w6) (.cells #[.int .i64 E2, .int .i64 A2] 50)) (Nat.le_refl _))
          have K7 := hide (K6.out.below (Below.plus (Below.refl _ w6) (.cells #[.int .i64 E2, .int .i64 A2] 50)) (Nat.le_refl _))
          have F7 := hide (F6.out.below (Below.plus (Below.refl _ w6) (.cells #[.int .i64 E2, .int .i64 A2] 50)) (Nat.le_refl _))
          have P7 := hide (P6.out.below (Below.plus (Below.refl _ w6) (.cells #[.int .i64 E2, .int .i64 A2] 50)) (Nat.le_refl _))
          have G7 := hide (G6.out.below (Below.plus (Below.refl _ w6) (.cells #[.int .i64 E2, .int .i64 A2] 50)) (Nat.le_refl _))
          have Q7 := hide (Q6.out.below (Below.plus (Below.refl _ w6) (.cells #[.int .i64 E2, .int .i64 A2] 50)) (Nat.le_refl _))
          have H7 := hide (Box.new w6 [.int .i64 E2, .int .i64 A2] 50)
          clear HB6 C6 L6 K6 F6 P6 G6 Q6
          have cF0 := F7.out.get 0 rfl
          have cF1 := F7.out.get 1 rfl
          have cG0 := G7.out.get 0 rfl
          have cG1 := G7.out.get 1 rfl
          have cH0 := H7.out.get 0 rfl
          have cH1 := H7.out.get 1 rfl
          go_wp2_with fail
          go_ret
          exact ⟨rfl, HB7.out⟩
    · obtain ⟨p1, p2⟩ := parts_first (m := m) (by rw [HE.out]; exact hi3) (by rw [HE1.out]; exact hE1)
      rw [HE.out, HE1.out] at p1
      rw [HA.out, HA1.out] at p2
      subst p1 p2
      have hne : (E != 0) = true := by simp [hE1]
      have hee : (E == E) = true := by simp
      have haa : (A == A) = true := by simp
      go_enter Try.func11, Try.ntmps11
      go_wp2_with fail
      refine (alive3 _).mono ?_
      rintro e w1 ⟨rfl, hb⟩
      have HB1 := hide (below_step HB0.out hb)
      have C1 := hide (C0.out.below hb (Nat.le_refl _))
      have L1 := hide (L0.out.below hb (Nat.le_refl _))
      clear HB0 hb C0 L0
      go_wp2_with fail
      refine (clock_log _ _ xs l n _ C1.out L1.out).mono ?_
      rintro e w2 ⟨vK, rfl, hK, hb⟩
      have HB2 := hide (below_step HB1.out hb)
      have C2 := hide (C1.out.below hb (Nat.le_refl _))
      have L2 := hide (L1.out.below hb (Nat.le_refl _))
      have K2 := hide hK
      clear HB1 hb C1 L1
      rw [HE.out, HA.out]
      rw [HX.out] at K2 hK
      obtain ⟨aK, cK, rfl, -, -, -⟩ := hK
      have HB3 := hide (below_step HB2.out (Below.plus (Below.refl _ w2) (.cells #[.int .i64 E, .int .i64 A] 50)))
      have C3 := hide (C2.out.below (Below.plus (Below.refl _ w2) (.cells #[.int .i64 E, .int .i64 A] 50)) (Nat.le_refl _))
      have L3 := hide (L2.out.below (Below.plus (Below.refl _ w2) (.cells #[.int .i64 E, .int .i64 A] 50)) (Nat.le_refl _))
      have K3 := hide (K2.out.below (Below.plus (Below.refl _ w2) (.cells #[.int .i64 E, .int .i64 A] 50)) (Nat.le_refl _))
      have F3 := hide (Box.new w2 [.int .i64 E, .int .i64 A] 50)
      clear HB2 C2 L2 K2
      have cF0 := F3.out.get 0 rfl
      have cF1 := F3.out.get 1 rfl
      clear cF0 cF1
      go_wp2_with fail
      refine (clock_log _ _ xs (l.take m) n _ C3.out (L3.out.take hm)).mono ?_
      rintro e w4 ⟨vP, rfl, hP, hb⟩
      have HB4 := hide (below_step HB3.out hb)
      have C4 := hide (C3.out.below hb (Nat.le_refl _))
      have L4 := hide (L3.out.below hb (Nat.le_refl _))
      have K4 := hide (K3.out.below hb (Nat.le_refl _))
      have F4 := hide (F3.out.below hb (Nat.le_refl _))
      have P4 := hide hP
      clear HB3 hb C3 L3 K3 F3
      rw [HE1.out, HA1.out]
      rw [HX1.out] at P4 hP
      obtain ⟨aP, cP, rfl, -, -, -⟩ := hP
      have HB5 := hide (below_step HB4.out (Below.plus (Below.refl _ w4) (.cells #[.int .i64 E, .int .i64 A] 50)))
      have C5 := hide (C4.out.below (Below.plus (Below.refl _ w4) (.cells #[.int .i64 E, .int .i64 A] 50)) (Nat.le_refl _))
      have L5 := hide (L4.out.below (Below.plus (Below.refl _ w4) (.cells #[.int .i64 E, .int .i64 A] 50)) (Nat.le_refl _))
      have K5 := hide (K4.out.below (Below.plus (Below.refl _ w4) (.cells #[.int .i64 E, .int .i64 A] 50)) (Nat.le_refl _))
      have F5 := hide (F4.out.below (Below.plus (Below.refl _ w4) (.cells #[.int .i64 E, .int .i64 A] 50)) (Nat.le_refl _))
      have P5 := hide (P4.out.below (Below.plus (Below.refl _ w4) (.cells #[.int .i64 E, .int .i64 A] 50)) (Nat.le_refl _))
      have G5 := hide (Box.new w4 [.int .i64 E, .int .i64 A] 50)
      clear HB4 C4 L4 K4 F4 P4
      have cF0 := F5.out.get 0 rfl
      have cF1 := F5.out.get 1 rfl
      have cG0 := G5.out.get 0 rfl
      have cG1 := G5.out.get 1 rfl
      go_wp2_with fail
      go_ret
      exact ⟨rfl, HB5.out⟩
end Go.Proofs.Ytiomdleoafakkaa
