/- The statement LogLacks of the third chapter, as a walk: it answers true for every base, log, number and clock. -/
import Derived.Test.YtiomdleoafakkaaLacksPure
import Derived.Test.YtiomdleoafakkaaAlive4
namespace Go.Proofs.Ytiomdleoafakkaa
open Go.RowKit

set_option maxRecDepth 100000 in
set_option maxHeartbeats 4000000 in
theorem lacks_law (v lv dv : Value) (xs cs : List Int) (l : List Upd) (n : Int) (w0 : World) (h : Row w0 v xs) (hl : LogV w0 lv l) (hd : Row w0 dv cs) :
    Calls Try.prog 12 #[v, lv, .int .i64 n, dv] w0 fun e w' => e = .returned (.bool true) ∧ Below w0.heap.size w0 w' := by
  obtain ⟨a, cap, rfl, -, -, -⟩ := id h
  obtain ⟨a', cap', rfl, -, -, -⟩ := id hl
  obtain ⟨a3, cap3, rfl, -, -, -⟩ := id hd
  have C0 := hide h
  have L0 := hide hl
  have D0 := hide hd
  have HB0 := hide (Below.refl w0.heap.size w0)
  obtain ⟨E, HE⟩ : ∃ E, Hid (clockE xs l n = E) := ⟨_, rfl⟩
  obtain ⟨A, HA⟩ : ∃ A, Hid (clockA xs l n = A) := ⟨_, rfl⟩
  obtain ⟨X, HX⟩ : ∃ X, Hid (clockX xs l n = X) := ⟨_, rfl⟩
  obtain ⟨q, HWC⟩ : ∃ q, Hid (wrongC cs n = q) := ⟨_, rfl⟩
  obtain ⟨s, HSE⟩ : ∃ s, Hid (seesC cs xs = s) := ⟨_, rfl⟩
  clear h hl hd
  by_cases hE : E = 0
  · subst hE
    by_cases hq : q = 0
    · subst hq
      cases s
      · go_enter Try.func12, Try.ntmps12
        go_wp2_with fail
        refine (alive3 _).mono ?_
        rintro e w1 ⟨rfl, hb⟩
        have HB1 := hide (below_step HB0.out hb)
        have C1 := hide (C0.out.below hb (Nat.le_refl _))
        have L1 := hide (L0.out.below hb (Nat.le_refl _))
        have D1 := hide (D0.out.below hb (Nat.le_refl _))
        clear HB0 hb C0 L0 D0
        go_wp2_with fail
        refine (clock_log _ _ xs l n _ C1.out L1.out).mono ?_
        rintro e w2 ⟨vK, rfl, hK, hb⟩
        have HB2 := hide (below_step HB1.out hb)
        have C2 := hide (C1.out.below hb (Nat.le_refl _))
        have L2 := hide (L1.out.below hb (Nat.le_refl _))
        have D2 := hide (D1.out.below hb (Nat.le_refl _))
        have K2 := hide hK
        clear HB1 hb C1 L1 D1
        rw [HE.out, HA.out]
        rw [HX.out] at K2 hK
        obtain ⟨aK, cK, rfl, -, -, -⟩ := hK
        have HB3 := hide (below_step HB2.out (Below.plus (Below.refl _ w2) (.cells #[.int .i64 0, .int .i64 A] 50)))
        have C3 := hide (C2.out.below (Below.plus (Below.refl _ w2) (.cells #[.int .i64 0, .int .i64 A] 50)) (Nat.le_refl _))
        have L3 := hide (L2.out.below (Below.plus (Below.refl _ w2) (.cells #[.int .i64 0, .int .i64 A] 50)) (Nat.le_refl _))
        have D3 := hide (D2.out.below (Below.plus (Below.refl _ w2) (.cells #[.int .i64 0, .int .i64 A] 50)) (Nat.le_refl _))
        have K3 := hide (K2.out.below (Below.plus (Below.refl _ w2) (.cells #[.int .i64 0, .int .i64 A] 50)) (Nat.le_refl _))
        have F3 := hide (Box.new w2 [.int .i64 0, .int .i64 A] 50)
        clear HB2 C2 L2 D2 K2
        have cF0 := F3.out.get 0 rfl
        have cF1 := F3.out.get 1 rfl
        clear cF0 cF1
        go_wp2_with fail
        refine (wrong_clock _ cs n _ D3.out).mono ?_
        rintro e w' ⟨rfl, hw'⟩
        rw [hw']; clear hw' w'
        rw [HWC.out]
        go_wp2_with fail
        refine (sees_clock _ _ cs xs _ D3.out C3.out).mono ?_
        rintro e w4 ⟨rfl, hb⟩
        have HB4 := hide (below_step HB3.out hb)
        have C4 := hide (C3.out.below hb (Nat.le_refl _))
        have L4 := hide (L3.out.below hb (Nat.le_refl _))
        have D4 := hide (D3.out.below hb (Nat.le_refl _))
        have K4 := hide (K3.out.below hb (Nat.le_refl _))
        have F4 := hide (F3.out.below hb (Nat.le_refl _))
        clear HB3 hb C3 L3 D3 K3 F3
        rw [HSE.out]
        go_wp2_with fail
        go_ret
        exact ⟨rfl, HB4.out⟩
      · obtain ⟨p1, p2⟩ := lacks_all HE.out HWC.out HSE.out
        obtain ⟨g1, g2, g3⟩ := clockE_ok.1 HE.out
        have HSM : Hid (∀ u ∈ l, Small u) := fun u hu => small_of (small_all l g3 u hu)
        have HLN : Hid (l.length ≤ 1000000) := by unfold Hid; omega
        rw [HX.out] at p1 p2
        obtain ⟨Y, HNL⟩ : ∃ Y, Hid (lacksL l cs = Y) := ⟨_, rfl⟩
        rw [HNL.out] at p1 p2
        obtain ⟨s, HSB⟩ : ∃ s, Hid (seesC cs X = s) := ⟨_, rfl⟩
        obtain ⟨E2, HE2⟩ : ∃ E, Hid (clockE cs Y n = E) := ⟨_, rfl⟩
        obtain ⟨A2, HA2⟩ : ∃ A, Hid (clockA cs Y n = A) := ⟨_, rfl⟩
        obtain ⟨X2, HX2⟩ : ∃ X, Hid (clockX cs Y n = X) := ⟨_, rfl⟩
        rw [HE2.out, HX2.out] at p2
        rw [HSB.out] at p1
        have hyl : Y.length ≤ 1000000 := by rw [← HNL.out]; have := List.length_filter_le (fun u => !seenU u cs) l; unfold lacksL; omega
        have hcs : cs.length ≤ 6 := by have := goodC_iff.1 HWC.out; omega
        have hX6 : X.length ≤ 6 := by rw [← HX.out, (clock_ok HE.out).1, tickL_length]; have := goodC_iff.1 g1; omega
        have hss : (s != s) = false := by cases s <;> rfl
        have hp : ((Y.length : Int) == 0) = s := by rw [p1]; rfl
        have hp2 : decide ((Y.length : Int) = 0) = s := p1.symm
        clear p1 g1 g2 g3
        by_cases hE2 : E2 = 0
        · subst hE2
          have HP2 := hide (p2 rfl)
          clear p2
          go_enter Try.func12, Try.ntmps12
          go_wp2_with fail
          refine (alive3 _).mono ?_
          rintro e w1 ⟨rfl, hb⟩
          have HB1 := hide (below_step HB0.out hb)
          have C1 := hide (C0.out.below hb (Nat.le_refl _))
          have L1 := hide (L0.out.below hb (Nat.le_refl _))
          have D1 := hide (D0.out.below hb (Nat.le_refl _))
          clear HB0 hb C0 L0 D0
          go_wp2_with fail
          refine (clock_log _ _ xs l n _ C1.out L1.out).mono ?_
          rintro e w2 ⟨vK, rfl, hK, hb⟩
          have HB2 := hide (below_step HB1.out hb)
          have C2 := hide (C1.out.below hb (Nat.le_refl _))
          have L2 := hide (L1.out.below hb (Nat.le_refl _))
          have D2 := hide (D1.out.below hb (Nat.le_refl _))
          have K2 := hide hK
          clear HB1 hb C1 L1 D1
          rw [HE.out, HA.out]
          rw [HX.out] at K2 hK
          obtain ⟨aK, cK, rfl, -, -, -⟩ := hK
          have HB3 := hide (below_step HB2.out (Below.plus (Below.refl _ w2) (.cells #[.int .i64 0, .int .i64 A] 50)))
          have C3 := hide (C2.out.below (Below.plus (Below.refl _ w2) (.cells #[.int .i64 0, .int .i64 A] 50)) (Nat.le_refl _))
          have L3 := hide (L2.out.below (Below.plus (Below.refl _ w2) (.cells #[.int .i64 0, .int .i64 A] 50)) (Nat.le_refl _))
          have D3 := hide (D2.out.below (Below.plus (Below.refl _ w2) (.cells #[.int .i64 0, .int .i64 A] 50)) (Nat.le_refl _))
          have K3 := hide (K2.out.below (Below.plus (Below.refl _ w2) (.cells #[.int .i64 0, .int .i64 A] 50)) (Nat.le_refl _))
          have F3 := hide (Box.new w2 [.int .i64 0, .int .i64 A] 50)
          clear HB2 C2 L2 D2 K2
          have cF0 := F3.out.get 0 rfl
          have cF1 := F3.out.get 1 rfl
          clear cF0 cF1
          go_wp2_with fail
          refine (wrong_clock _ cs n _ D3.out).mono ?_
          rintro e w' ⟨rfl, hw'⟩
          rw [hw']; clear hw' w'
          rw [HWC.out]
          go_wp2_with fail
          refine (sees_clock _ _ cs xs _ D3.out C3.out).mono ?_
          rintro e w4 ⟨rfl, hb⟩
          have HB4 := hide (below_step HB3.out hb)
          have C4 := hide (C3.out.below hb (Nat.le_refl _))
          have L4 := hide (L3.out.below hb (Nat.le_refl _))
          have D4 := hide (D3.out.below hb (Nat.le_refl _))
          have K4 := hide (K3.out.below hb (Nat.le_refl _))
          have F4 := hide (F3.out.below hb (Nat.le_refl _))
          clear HB3 hb C3 L3 D3 K3 F3
          rw [HSE.out]
          go_wp2_with fail
          refine (lacks_log _ _ l cs _ L4.out D4.out HSM.out HLN.out).mono ?_
          rintro e w5 ⟨vY, rfl, hY, hb⟩
          have HB5 := hide (below_step HB4.out hb)
          have C5 := hide (C4.out.below hb (Nat.le_refl _))
          have L5 := hide (L4.out.below hb (Nat.le_refl _))
          have D5 := hide (D4.out.below hb (Nat.le_refl _))
          have K5 := hide (K4.out.below hb (Nat.le_refl _))
          have F5 := hide (F4.out.below hb (Nat.le_refl _))
          have Y5 := hide hY
          clear HB4 hb C4 L4 D4 K4 F4
          obtain ⟨aY, cY, rfl, -, -, -⟩ := id hY
          rw [HNL.out] at Y5
          clear hY
          rw [HNL.out]
          go_wp2_with fail
          refine (sees_clock _ _ cs X _ D5.out K5.out).mono ?_
          rintro e w6 ⟨rfl, hb⟩
          have HB6 := hide (below_step HB5.out hb)
          have C6 := hide (C5.out.below hb (Nat.le_refl _))
          have L6 := hide (L5.out.below hb (Nat.le_refl _))
          have D6 := hide (D5.out.below hb (Nat.le_refl _))
          have K6 := hide (K5.out.below hb (Nat.le_refl _))
          have F6 := hide (F5.out.below hb (Nat.le_refl _))
          have Y6 := hide (Y5.out.below hb (Nat.le_refl _))
          clear HB5 hb C5 L5 D5 K5 F5 Y5
          rw [HSB.out]
          go_wp2_with fail
          refine (clock_log _ _ cs Y n _ D6.out Y6.out).mono ?_
          rintro e w7 ⟨vQ, rfl, hQ, hb⟩
          have HB7 := hide (below_step HB6.out hb)
          have C7 := hide (C6.out.below hb (Nat.le_refl _))
          have L7 := hide (L6.out.below hb (Nat.le_refl _))
          have D7 := hide (D6.out.below hb (Nat.le_refl _))
          have K7 := hide (K6.out.below hb (Nat.le_refl _))
          have F7 := hide (F6.out.below hb (Nat.le_refl _))
          have Y7 := hide (Y6.out.below hb (Nat.le_refl _))
          have Q7 := hide hQ
          clear HB6 hb C6 L6 D6 K6 F6 Y6
          rw [HE2.out, HA2.out]
          rw [HX2.out] at Q7 hQ
          obtain ⟨aQ, cQ, rfl, -, -, -⟩ := hQ
          have HB8 := hide (below_step HB7.out (Below.plus (Below.refl _ w7) (.cells #[.int .i64 0, .int .i64 A2] 50)))
          have C8 := hide (C7.out.below (Below.plus (Below.refl _ w7) (.cells #[.int .i64 0, .int .i64 A2] 50)) (Nat.le_refl _))
          have L8 := hide (L7.out.below (Below.plus (Below.refl _ w7) (.cells #[.int .i64 0, .int .i64 A2] 50)) (Nat.le_refl _))
          have D8 := hide (D7.out.below (Below.plus (Below.refl _ w7) (.cells #[.int .i64 0, .int .i64 A2] 50)) (Nat.le_refl _))
          have K8 := hide (K7.out.below (Below.plus (Below.refl _ w7) (.cells #[.int .i64 0, .int .i64 A2] 50)) (Nat.le_refl _))
          have F8 := hide (F7.out.below (Below.plus (Below.refl _ w7) (.cells #[.int .i64 0, .int .i64 A2] 50)) (Nat.le_refl _))
          have Y8 := hide (Y7.out.below (Below.plus (Below.refl _ w7) (.cells #[.int .i64 0, .int .i64 A2] 50)) (Nat.le_refl _))
          have Q8 := hide (Q7.out.below (Below.plus (Below.refl _ w7) (.cells #[.int .i64 0, .int .i64 A2] 50)) (Nat.le_refl _))
          have G8 := hide (Box.new w7 [.int .i64 0, .int .i64 A2] 50)
          clear HB7 C7 L7 D7 K7 F7 Y7 Q7
          have cG0 := G8.out.get 0 rfl
          have cG1 := G8.out.get 1 rfl
          clear cG0 cG1
          go_wp2_with fail
          refine (join_clock _ _ cs X _ D8.out K8.out (by omega) (by omega)).mono ?_
          rintro e w9 ⟨vJ, rfl, ho, hb⟩
          have HB9 := hide (below_step HB8.out hb)
          have C9 := hide (C8.out.below hb (Nat.le_refl _))
          have L9 := hide (L8.out.below hb (Nat.le_refl _))
          have D9 := hide (D8.out.below hb (Nat.le_refl _))
          have K9 := hide (K8.out.below hb (Nat.le_refl _))
          have F9 := hide (F8.out.below hb (Nat.le_refl _))
          have Y9 := hide (Y8.out.below hb (Nat.le_refl _))
          have Q9 := hide (Q8.out.below hb (Nat.le_refl _))
          have G9 := hide (G8.out.below hb (Nat.le_refl _))
          have J9 := hide ho.row
          clear HB8 hb C8 L8 D8 K8 F8 Y8 Q8 G8
          clear ho
          go_wp2_with fail
          refine (same_yes _ _ X2 (joinC cs X) _ Q9.out J9.out HP2.out).mono ?_
          rintro e w10 ⟨rfl, hb⟩
          have HB10 := hide (below_step HB9.out hb)
          have C10 := hide (C9.out.below hb (Nat.le_refl _))
          have L10 := hide (L9.out.below hb (Nat.le_refl _))
          have D10 := hide (D9.out.below hb (Nat.le_refl _))
          have K10 := hide (K9.out.below hb (Nat.le_refl _))
          have F10 := hide (F9.out.below hb (Nat.le_refl _))
          have Y10 := hide (Y9.out.below hb (Nat.le_refl _))
          have Q10 := hide (Q9.out.below hb (Nat.le_refl _))
          have G10 := hide (G9.out.below hb (Nat.le_refl _))
          have J10 := hide (J9.out.below hb (Nat.le_refl _))
          clear HB9 hb C9 L9 D9 K9 F9 Y9 Q9 G9 J9
          go_wp2_with fail
          go_ret
          exact ⟨rfl, HB10.out⟩
        · have hne : (E2 != 0) = true := by simp [hE2]
          clear p2
          go_enter Try.func12, Try.ntmps12
          go_wp2_with fail
          refine (alive3 _).mono ?_
          rintro e w1 ⟨rfl, hb⟩
          have HB1 := hide (below_step HB0.out hb)
          have C1 := hide (C0.out.below hb (Nat.le_refl _))
          have L1 := hide (L0.out.below hb (Nat.le_refl _))
          have D1 := hide (D0.out.below hb (Nat.le_refl _))
          clear HB0 hb C0 L0 D0
          go_wp2_with fail
          refine (clock_log _ _ xs l n _ C1.out L1.out).mono ?_
          rintro e w2 ⟨vK, rfl, hK, hb⟩
          have HB2 := hide (below_step HB1.out hb)
          have C2 := hide (C1.out.below hb (Nat.le_refl _))
          have L2 := hide (L1.out.below hb (Nat.le_refl _))
          have D2 := hide (D1.out.below hb (Nat.le_refl _))
          have K2 := hide hK
          clear HB1 hb C1 L1 D1
          rw [HE.out, HA.out]
          rw [HX.out] at K2 hK
          obtain ⟨aK, cK, rfl, -, -, -⟩ := hK
          have HB3 := hide (below_step HB2.out (Below.plus (Below.refl _ w2) (.cells #[.int .i64 0, .int .i64 A] 50)))
          have C3 := hide (C2.out.below (Below.plus (Below.refl _ w2) (.cells #[.int .i64 0, .int .i64 A] 50)) (Nat.le_refl _))
          have L3 := hide (L2.out.below (Below.plus (Below.refl _ w2) (.cells #[.int .i64 0, .int .i64 A] 50)) (Nat.le_refl _))
          have D3 := hide (D2.out.below (Below.plus (Below.refl _ w2) (.cells #[.int .i64 0, .int .i64 A] 50)) (Nat.le_refl _))
          have K3 := hide (K2.out.below (Below.plus (Below.refl _ w2) (.cells #[.int .i64 0, .int .i64 A] 50)) (Nat.le_refl _))
          have F3 := hide (Box.new w2 [.int .i64 0, .int .i64 A] 50)
          clear HB2 C2 L2 D2 K2
          have cF0 := F3.out.get 0 rfl
          have cF1 := F3.out.get 1 rfl
          clear cF0 cF1
          go_wp2_with fail
          refine (wrong_clock _ cs n _ D3.out).mono ?_
          rintro e w' ⟨rfl, hw'⟩
          rw [hw']; clear hw' w'
          rw [HWC.out]
          go_wp2_with fail
          refine (sees_clock _ _ cs xs _ D3.out C3.out).mono ?_
          rintro e w4 ⟨rfl, hb⟩
          have HB4 := hide (below_step HB3.out hb)
          have C4 := hide (C3.out.below hb (Nat.le_refl _))
          have L4 := hide (L3.out.below hb (Nat.le_refl _))
          have D4 := hide (D3.out.below hb (Nat.le_refl _))
          have K4 := hide (K3.out.below hb (Nat.le_refl _))
          have F4 := hide (F3.out.below hb (Nat.le_refl _))
          clear HB3 hb C3 L3 D3 K3 F3
          rw [HSE.out]
          go_wp2_with fail
          refine (lacks_log _ _ l cs _ L4.out D4.out HSM.out HLN.out).mono ?_
          rintro e w5 ⟨vY, rfl, hY, hb⟩
          have HB5 := hide (below_step HB4.out hb)
          have C5 := hide (C4.out.below hb (Nat.le_refl _))
          have L5 := hide (L4.out.below hb (Nat.le_refl _))
          have D5 := hide (D4.out.below hb (Nat.le_refl _))
          have K5 := hide (K4.out.below hb (Nat.le_refl _))
          have F5 := hide (F4.out.below hb (Nat.le_refl _))
          have Y5 := hide hY
          clear HB4 hb C4 L4 D4 K4 F4
          obtain ⟨aY, cY, rfl, -, -, -⟩ := id hY
          rw [HNL.out] at Y5
          clear hY
          rw [HNL.out]
          go_wp2_with fail
          refine (sees_clock _ _ cs X _ D5.out K5.out).mono ?_
          rintro e w6 ⟨rfl, hb⟩
          have HB6 := hide (below_step HB5.out hb)
          have C6 := hide (C5.out.below hb (Nat.le_refl _))
          have L6 := hide (L5.out.below hb (Nat.le_refl _))
          have D6 := hide (D5.out.below hb (Nat.le_refl _))
          have K6 := hide (K5.out.below hb (Nat.le_refl _))
          have F6 := hide (F5.out.below hb (Nat.le_refl _))
          have Y6 := hide (Y5.out.below hb (Nat.le_refl _))
          clear HB5 hb C5 L5 D5 K5 F5 Y5
          rw [HSB.out]
          go_wp2_with fail
          refine (clock_log _ _ cs Y n _ D6.out Y6.out).mono ?_
          rintro e w7 ⟨vQ, rfl, hQ, hb⟩
          have HB7 := hide (below_step HB6.out hb)
          have C7 := hide (C6.out.below hb (Nat.le_refl _))
          have L7 := hide (L6.out.below hb (Nat.le_refl _))
          have D7 := hide (D6.out.below hb (Nat.le_refl _))
          have K7 := hide (K6.out.below hb (Nat.le_refl _))
          have F7 := hide (F6.out.below hb (Nat.le_refl _))
          have Y7 := hide (Y6.out.below hb (Nat.le_refl _))
          have Q7 := hide hQ
          clear HB6 hb C6 L6 D6 K6 F6 Y6
          rw [HE2.out, HA2.out]
          rw [HX2.out] at Q7 hQ
          obtain ⟨aQ, cQ, rfl, -, -, -⟩ := hQ
          have HB8 := hide (below_step HB7.out (Below.plus (Below.refl _ w7) (.cells #[.int .i64 E2, .int .i64 A2] 50)))
          have C8 := hide (C7.out.below (Below.plus (Below.refl _ w7) (.cells #[.int .i64 E2, .int .i64 A2] 50)) (Nat.le_refl _))
          have L8 := hide (L7.out.below (Below.plus (Below.refl _ w7) (.cells #[.int .i64 E2, .int .i64 A2] 50)) (Nat.le_refl _))
          have D8 := hide (D7.out.below (Below.plus (Below.refl _ w7) (.cells #[.int .i64 E2, .int .i64 A2] 50)) (Nat.le_refl _))
          have K8 := hide (K7.out.below (Below.plus (Below.refl _ w7) (.cells #[.int .i64 E2, .int .i64 A2] 50)) (Nat.le_refl _))
          have F8 := hide (F7.out.below (Below.plus (Below.refl _ w7) (.cells #[.int .i64 E2, .int .i64 A2] 50)) (Nat.le_refl _))
          have Y8 := hide (Y7.out.below (Below.plus (Below.refl _ w7) (.cells #[.int .i64 E2, .int .i64 A2] 50)) (Nat.le_refl _))
          have Q8 := hide (Q7.out.below (Below.plus (Below.refl _ w7) (.cells #[.int .i64 E2, .int .i64 A2] 50)) (Nat.le_refl _))
          have G8 := hide (Box.new w7 [.int .i64 E2, .int .i64 A2] 50)
          clear HB7 C7 L7 D7 K7 F7 Y7 Q7
          have cG0 := G8.out.get 0 rfl
          have cG1 := G8.out.get 1 rfl
          go_wp2_with fail
          go_ret
          exact ⟨rfl, HB8.out⟩
    · have hne : (q != 0) = true := by simp [hq]
      go_enter Try.func12, Try.ntmps12
      go_wp2_with fail
      refine (alive3 _).mono ?_
      rintro e w1 ⟨rfl, hb⟩
      have HB1 := hide (below_step HB0.out hb)
      have C1 := hide (C0.out.below hb (Nat.le_refl _))
      have L1 := hide (L0.out.below hb (Nat.le_refl _))
      have D1 := hide (D0.out.below hb (Nat.le_refl _))
      clear HB0 hb C0 L0 D0
      go_wp2_with fail
      refine (clock_log _ _ xs l n _ C1.out L1.out).mono ?_
      rintro e w2 ⟨vK, rfl, hK, hb⟩
      have HB2 := hide (below_step HB1.out hb)
      have C2 := hide (C1.out.below hb (Nat.le_refl _))
      have L2 := hide (L1.out.below hb (Nat.le_refl _))
      have D2 := hide (D1.out.below hb (Nat.le_refl _))
      have K2 := hide hK
      clear HB1 hb C1 L1 D1
      rw [HE.out, HA.out]
      rw [HX.out] at K2 hK
      obtain ⟨aK, cK, rfl, -, -, -⟩ := hK
      have HB3 := hide (below_step HB2.out (Below.plus (Below.refl _ w2) (.cells #[.int .i64 0, .int .i64 A] 50)))
      have C3 := hide (C2.out.below (Below.plus (Below.refl _ w2) (.cells #[.int .i64 0, .int .i64 A] 50)) (Nat.le_refl _))
      have L3 := hide (L2.out.below (Below.plus (Below.refl _ w2) (.cells #[.int .i64 0, .int .i64 A] 50)) (Nat.le_refl _))
      have D3 := hide (D2.out.below (Below.plus (Below.refl _ w2) (.cells #[.int .i64 0, .int .i64 A] 50)) (Nat.le_refl _))
      have K3 := hide (K2.out.below (Below.plus (Below.refl _ w2) (.cells #[.int .i64 0, .int .i64 A] 50)) (Nat.le_refl _))
      have F3 := hide (Box.new w2 [.int .i64 0, .int .i64 A] 50)
      clear HB2 C2 L2 D2 K2
      have cF0 := F3.out.get 0 rfl
      have cF1 := F3.out.get 1 rfl
      clear cF0 cF1
      go_wp2_with fail
      refine (wrong_clock _ cs n _ D3.out).mono ?_
      rintro e w' ⟨rfl, hw'⟩
      rw [hw']; clear hw' w'
      rw [HWC.out]
      go_wp2_with fail
      go_ret
      exact ⟨rfl, HB3.out⟩
  · have hne : (E != 0) = true := by simp [hE]
    go_enter Try.func12, Try.ntmps12
    go_wp2_with fail
    refine (alive3 _).mono ?_
    rintro e w1 ⟨rfl, hb⟩
    have HB1 := hide (below_step HB0.out hb)
    have C1 := hide (C0.out.below hb (Nat.le_refl _))
    have L1 := hide (L0.out.below hb (Nat.le_refl _))
    have D1 := hide (D0.out.below hb (Nat.le_refl _))
    clear HB0 hb C0 L0 D0
    go_wp2_with fail
    refine (clock_log _ _ xs l n _ C1.out L1.out).mono ?_
    rintro e w2 ⟨vK, rfl, hK, hb⟩
    have HB2 := hide (below_step HB1.out hb)
    have C2 := hide (C1.out.below hb (Nat.le_refl _))
    have L2 := hide (L1.out.below hb (Nat.le_refl _))
    have D2 := hide (D1.out.below hb (Nat.le_refl _))
    have K2 := hide hK
    clear HB1 hb C1 L1 D1
    rw [HE.out, HA.out]
    rw [HX.out] at K2 hK
    obtain ⟨aK, cK, rfl, -, -, -⟩ := hK
    have HB3 := hide (below_step HB2.out (Below.plus (Below.refl _ w2) (.cells #[.int .i64 E, .int .i64 A] 50)))
    have C3 := hide (C2.out.below (Below.plus (Below.refl _ w2) (.cells #[.int .i64 E, .int .i64 A] 50)) (Nat.le_refl _))
    have L3 := hide (L2.out.below (Below.plus (Below.refl _ w2) (.cells #[.int .i64 E, .int .i64 A] 50)) (Nat.le_refl _))
    have D3 := hide (D2.out.below (Below.plus (Below.refl _ w2) (.cells #[.int .i64 E, .int .i64 A] 50)) (Nat.le_refl _))
    have K3 := hide (K2.out.below (Below.plus (Below.refl _ w2) (.cells #[.int .i64 E, .int .i64 A] 50)) (Nat.le_refl _))
    have F3 := hide (Box.new w2 [.int .i64 E, .int .i64 A] 50)
    clear HB2 C2 L2 D2 K2
    have cF0 := F3.out.get 0 rfl
    have cF1 := F3.out.get 1 rfl
    go_wp2_with fail
    go_ret
    exact ⟨rfl, HB3.out⟩
end Go.Proofs.Ytiomdleoafakkaa
