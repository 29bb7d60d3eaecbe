/- The statement ClockJoin of the first chapter, as a walk: it answers true for every three clocks. -/
import Derived.Test.YtiomdleoafakkaaLawOrder
namespace Go.Proofs.Ytiomdleoafakkaa
open Go.RowKit

theorem joinI_le {x y z : Int} : joinI x y ≤ z ↔ x ≤ z ∧ y ≤ z := by unfold joinI; split <;> omega
theorem le_joinI {x y : Int} : x ≤ joinI x y ∧ y ≤ joinI x y := by unfold joinI; split <;> omega
theorem meetI_le {x y : Int} : meetI x y ≤ x ∧ meetI x y ≤ y := by unfold meetI; split <;> omega
theorem le_meetI {x y z : Int} : z ≤ meetI x y ↔ z ≤ x ∧ z ≤ y := by unfold meetI; split <;> omega
theorem sees_join_l (xs ys : List Int) : seesC (joinC xs ys) xs = true := by rw [seesC_iff]; intro i; rw [joinC_getD]; exact le_joinI.1
theorem sees_join_r (xs ys : List Int) : seesC (joinC xs ys) ys = true := by rw [seesC_iff]; intro i; rw [joinC_getD]; exact le_joinI.2
theorem sees_meet_l (xs ys : List Int) : seesC xs (meetC xs ys) = true := by rw [seesC_iff]; intro i; rw [meetC_getD]; exact meetI_le.1
theorem sees_meet_r (xs ys : List Int) : seesC ys (meetC xs ys) = true := by rw [seesC_iff]; intro i; rw [meetC_getD]; exact meetI_le.2
theorem sees_join (xs ys zs : List Int) : seesC zs (joinC xs ys) = (seesC zs xs && seesC zs ys) := by
  rw [Bool.eq_iff_iff, Bool.and_eq_true, seesC_iff, seesC_iff, seesC_iff]
  constructor
  · intro h; exact ⟨fun i => by have := h i; rw [joinC_getD, joinI_le] at this; exact this.1, fun i => by have := h i; rw [joinC_getD, joinI_le] at this; exact this.2⟩
  · intro h i; rw [joinC_getD, joinI_le]; exact ⟨h.1 i, h.2 i⟩
theorem meet_sees (xs ys zs : List Int) : seesC (meetC xs ys) zs = (seesC xs zs && seesC ys zs) := by
  rw [Bool.eq_iff_iff, Bool.and_eq_true, seesC_iff, seesC_iff, seesC_iff]
  constructor
  · intro h; exact ⟨fun i => by have := h i; rw [meetC_getD, le_meetI] at this; exact this.1, fun i => by have := h i; rw [meetC_getD, le_meetI] at this; exact this.2⟩
  · intro h i; rw [meetC_getD, le_meetI]; exact ⟨h.1 i, h.2 i⟩
theorem lenM_eq {xs ys : List Int} {n : Nat} (h : xs.length = n) (h' : ys.length = n) : lenM xs ys = n := by unfold lenM; split <;> omega
theorem join_assoc (xs ys zs : List Int) : joinC xs (joinC ys zs) = joinC (joinC xs ys) zs := by
  refine ext_getD ?_ fun i => ?_
  · rw [joinC_length, joinC_length]; unfold lenM; rw [joinC_length, joinC_length]; unfold lenM; repeat' split
    all_goals omega
  · rw [joinC_getD, joinC_getD, joinC_getD, joinC_getD]; unfold joinI; repeat' split
    all_goals omega
theorem join_comm (xs ys : List Int) : joinC xs ys = joinC ys xs := by
  refine ext_getD ?_ fun i => ?_
  · rw [joinC_length, joinC_length]; unfold lenM; split <;> split <;> omega
  · rw [joinC_getD, joinC_getD]; unfold joinI; split <;> split <;> omega
theorem join_meet {xs ys : List Int} (h : xs.length = ys.length) : joinC xs (meetC xs ys) = xs := by
  refine ext_getD ?_ fun i => ?_
  · rw [joinC_length]; exact lenM_eq rfl (by rw [meetC_length]; exact lenM_eq rfl h.symm)
  · rw [joinC_getD, meetC_getD]; unfold joinI meetI; split <;> split <;> omega
theorem meet_join {xs ys : List Int} (h : xs.length = ys.length) : meetC xs (joinC xs ys) = xs := by
  refine ext_getD ?_ fun i => ?_
  · rw [meetC_length]; exact lenM_eq rfl (by rw [joinC_length]; exact lenM_eq rfl h.symm)
  · rw [meetC_getD, joinC_getD]; unfold joinI meetI; split <;> split <;> omega

set_option maxHeartbeats 4000000 in
theorem join_law (va vb vc : Value) (xs ys zs : List Int) (w : World) (ha : Row w va xs) (hb : Row w vb ys) (hc : Row w vc zs) :
    Calls Try.prog 5 #[va, vb, vc] w fun e w' => e = .returned (.bool true) ∧ Below w.heap.size w w' := by
  have hx := ha.len_le
  have A0 := hide ha
  have B0 := hide hb
  have C0 := hide hc
  have HB0 := Below.self w
  obtain ⟨a, cap, rfl, -, -, -⟩ := ha
  obtain ⟨a', cap', rfl, -, -, -⟩ := hb
  obtain ⟨a'', cap'', rfl, -, -, -⟩ := hc
  by_cases h1 : wrongC xs xs.length = 0
  · by_cases h2 : wrongC ys xs.length = 0
    · by_cases h3 : wrongC zs xs.length = 0
      · obtain ⟨g1, g2, -, -⟩ := wrongC_zero h1
        have ly : Hid (ys.length = xs.length) := by have := (wrongC_zero h2).2.2.1; unfold Hid; omega
        have lz : Hid (zs.length = xs.length) := by have := (wrongC_zero h3).2.2.1; unfold Hid; omega
        have bx : Hid (xs.length * 8 ≤ 140737488351232) := by unfold Hid; omega
        have bY : Hid (ys.length * 8 ≤ 140737488351232) := by unfold Hid; rw [ly.out]; omega
        have bz : Hid (zs.length * 8 ≤ 140737488351232) := by unfold Hid; rw [lz.out]; omega
        have bj : Hid ((joinC xs ys).length * 8 ≤ 140737488351232) := by unfold Hid; rw [joinC_length, lenM_eq rfl ly.out]; omega
        have bm : Hid ((meetC xs ys).length * 8 ≤ 140737488351232) := by unfold Hid; rw [meetC_length, lenM_eq rfl ly.out]; omega
        have bk : Hid ((joinC ys zs).length * 8 ≤ 140737488351232) := by unfold Hid; rw [joinC_length, lenM_eq ly.out lz.out]; omega
        have e1 := hide (join_assoc xs ys zs)
        have e2 := hide (join_comm xs ys)
        have e3 := hide (join_meet ly.out.symm)
        have e4 := hide (meet_join ly.out.symm)
        have s1 := sees_join_l xs ys
        have s2 := sees_join_r xs ys
        have s3 := sees_meet_l xs ys
        have s4 := sees_meet_r xs ys
        have t1 := sees_join xs ys zs
        have t2 := meet_sees xs ys zs
        clear ly lz
        obtain ⟨q1, hq1⟩ : ∃ q, seesC zs ys = q := ⟨_, rfl⟩
        obtain ⟨q2, hq2⟩ : ∃ q, seesC ys zs = q := ⟨_, rfl⟩
        rw [hq1] at t1
        rw [hq2] at t2
        cases hp : seesC zs xs
        · rw [hp, Bool.false_and] at t1
          cases hq : seesC xs zs
          · rw [hq, Bool.false_and] at t2
            go_enter Try.func5, Try.ntmps5
            go_wp2_with fail
            refine (alive_law _).mono ?_
            rintro e w1 ⟨rfl, hb⟩
            have HB1 := hide (below_step HB0.out hb)
            have A1 := hide (A0.out.below hb (Nat.le_refl _))
            have B1 := hide (B0.out.below hb (Nat.le_refl _))
            have C1 := hide (C0.out.below hb (Nat.le_refl _))
            clear HB0 hb A0 B0 C0
            go_wp2_with fail
            refine (wrong_clock _ xs _ _ A1.out).mono ?_
            rintro e w' ⟨rfl, hw'⟩
            rw [hw']; clear hw' w'
            go_wp2_with fail
            refine (wrong_clock _ ys _ _ B1.out).mono ?_
            rintro e w' ⟨rfl, hw'⟩
            rw [hw']; clear hw' w'
            go_wp2_with fail
            refine (wrong_clock _ zs _ _ C1.out).mono ?_
            rintro e w' ⟨rfl, hw'⟩
            rw [hw']; clear hw' w'
            go_wp2_with fail
            refine (join_clock _ _ xs ys _ A1.out B1.out bx.out bY.out).mono ?_
            rintro e w2 ⟨vJ, rfl, ho, hb⟩
            have HB2 := hide (below_step HB1.out hb)
            have A2 := hide (A1.out.below hb (Nat.le_refl _))
            have B2 := hide (B1.out.below hb (Nat.le_refl _))
            have C2 := hide (C1.out.below hb (Nat.le_refl _))
            have J2 := hide ho.row
            clear HB1 hb A1 B1 C1
            clear ho
            go_wp2_with fail
            refine (meet_clock _ _ xs ys _ A2.out B2.out bx.out bY.out).mono ?_
            rintro e w3 ⟨vM, rfl, ho, hb⟩
            have HB3 := hide (below_step HB2.out hb)
            have A3 := hide (A2.out.below hb (Nat.le_refl _))
            have B3 := hide (B2.out.below hb (Nat.le_refl _))
            have C3 := hide (C2.out.below hb (Nat.le_refl _))
            have J3 := hide (J2.out.below hb (Nat.le_refl _))
            have M3 := hide ho.row
            clear HB2 hb A2 B2 C2 J2
            clear ho
            go_wp2_with fail
            refine (sees_clock _ _ _ xs _ J3.out A3.out).mono ?_
            rintro e w4 ⟨rfl, hb⟩
            have HB4 := hide (below_step HB3.out hb)
            have A4 := hide (A3.out.below hb (Nat.le_refl _))
            have B4 := hide (B3.out.below hb (Nat.le_refl _))
            have C4 := hide (C3.out.below hb (Nat.le_refl _))
            have J4 := hide (J3.out.below hb (Nat.le_refl _))
            have M4 := hide (M3.out.below hb (Nat.le_refl _))
            clear HB3 hb A3 B3 C3 J3 M3
            go_wp2_with fail
            refine (sees_clock _ _ _ ys _ J4.out B4.out).mono ?_
            rintro e w5 ⟨rfl, hb⟩
            have HB5 := hide (below_step HB4.out hb)
            have A5 := hide (A4.out.below hb (Nat.le_refl _))
            have B5 := hide (B4.out.below hb (Nat.le_refl _))
            have C5 := hide (C4.out.below hb (Nat.le_refl _))
            have J5 := hide (J4.out.below hb (Nat.le_refl _))
            have M5 := hide (M4.out.below hb (Nat.le_refl _))
            clear HB4 hb A4 B4 C4 J4 M4
            go_wp2_with fail
            refine (sees_clock _ _ xs _ _ A5.out M5.out).mono ?_
            rintro e w6 ⟨rfl, hb⟩
            have HB6 := hide (below_step HB5.out hb)
            have A6 := hide (A5.out.below hb (Nat.le_refl _))
            have B6 := hide (B5.out.below hb (Nat.le_refl _))
            have C6 := hide (C5.out.below hb (Nat.le_refl _))
            have J6 := hide (J5.out.below hb (Nat.le_refl _))
            have M6 := hide (M5.out.below hb (Nat.le_refl _))
            clear HB5 hb A5 B5 C5 J5 M5
            go_wp2_with fail
            refine (sees_clock _ _ ys _ _ B6.out M6.out).mono ?_
            rintro e w7 ⟨rfl, hb⟩
            have HB7 := hide (below_step HB6.out hb)
            have A7 := hide (A6.out.below hb (Nat.le_refl _))
            have B7 := hide (B6.out.below hb (Nat.le_refl _))
            have C7 := hide (C6.out.below hb (Nat.le_refl _))
            have J7 := hide (J6.out.below hb (Nat.le_refl _))
            have M7 := hide (M6.out.below hb (Nat.le_refl _))
            clear HB6 hb A6 B6 C6 J6 M6
            go_wp2_with fail
            refine (sees_clock _ _ zs xs _ C7.out A7.out).mono ?_
            rintro e w8 ⟨rfl, hb⟩
            have HB8 := hide (below_step HB7.out hb)
            have A8 := hide (A7.out.below hb (Nat.le_refl _))
            have B8 := hide (B7.out.below hb (Nat.le_refl _))
            have C8 := hide (C7.out.below hb (Nat.le_refl _))
            have J8 := hide (J7.out.below hb (Nat.le_refl _))
            have M8 := hide (M7.out.below hb (Nat.le_refl _))
            clear HB7 hb A7 B7 C7 J7 M7
            go_wp2_with fail
            refine (sees_clock _ _ zs _ _ C8.out J8.out).mono ?_
            rintro e w9 ⟨rfl, hb⟩
            have HB9 := hide (below_step HB8.out hb)
            have A9 := hide (A8.out.below hb (Nat.le_refl _))
            have B9 := hide (B8.out.below hb (Nat.le_refl _))
            have C9 := hide (C8.out.below hb (Nat.le_refl _))
            have J9 := hide (J8.out.below hb (Nat.le_refl _))
            have M9 := hide (M8.out.below hb (Nat.le_refl _))
            clear HB8 hb A8 B8 C8 J8 M8
            go_wp2_with fail
            refine (sees_clock _ _ xs zs _ A9.out C9.out).mono ?_
            rintro e w10 ⟨rfl, hb⟩
            have HB10 := hide (below_step HB9.out hb)
            have A10 := hide (A9.out.below hb (Nat.le_refl _))
            have B10 := hide (B9.out.below hb (Nat.le_refl _))
            have C10 := hide (C9.out.below hb (Nat.le_refl _))
            have J10 := hide (J9.out.below hb (Nat.le_refl _))
            have M10 := hide (M9.out.below hb (Nat.le_refl _))
            clear HB9 hb A9 B9 C9 J9 M9
            go_wp2_with fail
            refine (sees_clock _ _ _ zs _ M10.out C10.out).mono ?_
            rintro e w11 ⟨rfl, hb⟩
            have HB11 := hide (below_step HB10.out hb)
            have A11 := hide (A10.out.below hb (Nat.le_refl _))
            have B11 := hide (B10.out.below hb (Nat.le_refl _))
            have C11 := hide (C10.out.below hb (Nat.le_refl _))
            have J11 := hide (J10.out.below hb (Nat.le_refl _))
            have M11 := hide (M10.out.below hb (Nat.le_refl _))
            clear HB10 hb A10 B10 C10 J10 M10
            go_wp2_with fail
            refine (join_clock _ _ ys zs _ B11.out C11.out bY.out bz.out).mono ?_
            rintro e w12 ⟨vK, rfl, ho, hb⟩
            have HB12 := hide (below_step HB11.out hb)
            have A12 := hide (A11.out.below hb (Nat.le_refl _))
            have B12 := hide (B11.out.below hb (Nat.le_refl _))
            have C12 := hide (C11.out.below hb (Nat.le_refl _))
            have J12 := hide (J11.out.below hb (Nat.le_refl _))
            have M12 := hide (M11.out.below hb (Nat.le_refl _))
            have K12 := hide ho.row
            clear HB11 hb A11 B11 C11 J11 M11
            clear ho
            go_wp2_with fail
            refine (join_clock _ _ xs _ _ A12.out K12.out bx.out bk.out).mono ?_
            rintro e w13 ⟨vL, rfl, ho, hb⟩
            have HB13 := hide (below_step HB12.out hb)
            have A13 := hide (A12.out.below hb (Nat.le_refl _))
            have B13 := hide (B12.out.below hb (Nat.le_refl _))
            have C13 := hide (C12.out.below hb (Nat.le_refl _))
            have J13 := hide (J12.out.below hb (Nat.le_refl _))
            have M13 := hide (M12.out.below hb (Nat.le_refl _))
            have K13 := hide (K12.out.below hb (Nat.le_refl _))
            have L13 := hide ho.row
            clear HB12 hb A12 B12 C12 J12 M12 K12
            clear ho
            go_wp2_with fail
            refine (join_clock _ _ _ zs _ J13.out C13.out bj.out bz.out).mono ?_
            rintro e w14 ⟨vN, rfl, ho, hb⟩
            have HB14 := hide (below_step HB13.out hb)
            have A14 := hide (A13.out.below hb (Nat.le_refl _))
            have B14 := hide (B13.out.below hb (Nat.le_refl _))
            have C14 := hide (C13.out.below hb (Nat.le_refl _))
            have J14 := hide (J13.out.below hb (Nat.le_refl _))
            have M14 := hide (M13.out.below hb (Nat.le_refl _))
            have K14 := hide (K13.out.below hb (Nat.le_refl _))
            have L14 := hide (L13.out.below hb (Nat.le_refl _))
            have N14 := hide ho.row
            clear HB13 hb A13 B13 C13 J13 M13 K13 L13
            clear ho
            go_wp2_with fail
            refine (same_yes _ _ _ _ _ L14.out N14.out e1.out).mono ?_
            rintro e w15 ⟨rfl, hb⟩
            have HB15 := hide (below_step HB14.out hb)
            have A15 := hide (A14.out.below hb (Nat.le_refl _))
            have B15 := hide (B14.out.below hb (Nat.le_refl _))
            have C15 := hide (C14.out.below hb (Nat.le_refl _))
            have J15 := hide (J14.out.below hb (Nat.le_refl _))
            have M15 := hide (M14.out.below hb (Nat.le_refl _))
            have K15 := hide (K14.out.below hb (Nat.le_refl _))
            have L15 := hide (L14.out.below hb (Nat.le_refl _))
            have N15 := hide (N14.out.below hb (Nat.le_refl _))
            clear HB14 hb A14 B14 C14 J14 M14 K14 L14 N14
            go_wp2_with fail
            refine (join_clock _ _ ys xs _ B15.out A15.out bY.out bx.out).mono ?_
            rintro e w16 ⟨vO, rfl, ho, hb⟩
            have HB16 := hide (below_step HB15.out hb)
            have A16 := hide (A15.out.below hb (Nat.le_refl _))
            have B16 := hide (B15.out.below hb (Nat.le_refl _))
            have C16 := hide (C15.out.below hb (Nat.le_refl _))
            have J16 := hide (J15.out.below hb (Nat.le_refl _))
            have M16 := hide (M15.out.below hb (Nat.le_refl _))
            have K16 := hide (K15.out.below hb (Nat.le_refl _))
            have L16 := hide (L15.out.below hb (Nat.le_refl _))
            have N16 := hide (N15.out.below hb (Nat.le_refl _))
            have O16 := hide ho.row
            clear HB15 hb A15 B15 C15 J15 M15 K15 L15 N15
            clear ho
            go_wp2_with fail
            refine (same_yes _ _ _ _ _ J16.out O16.out e2.out).mono ?_
            rintro e w17 ⟨rfl, hb⟩
            have HB17 := hide (below_step HB16.out hb)
            have A17 := hide (A16.out.below hb (Nat.le_refl _))
            have B17 := hide (B16.out.below hb (Nat.le_refl _))
            have C17 := hide (C16.out.below hb (Nat.le_refl _))
            have J17 := hide (J16.out.below hb (Nat.le_refl _))
            have M17 := hide (M16.out.below hb (Nat.le_refl _))
            have K17 := hide (K16.out.below hb (Nat.le_refl _))
            have L17 := hide (L16.out.below hb (Nat.le_refl _))
            have N17 := hide (N16.out.below hb (Nat.le_refl _))
            have O17 := hide (O16.out.below hb (Nat.le_refl _))
            clear HB16 hb A16 B16 C16 J16 M16 K16 L16 N16 O16
            go_wp2_with fail
            refine (join_clock _ _ xs _ _ A17.out M17.out bx.out bm.out).mono ?_
            rintro e w18 ⟨vP, rfl, ho, hb⟩
            have HB18 := hide (below_step HB17.out hb)
            have A18 := hide (A17.out.below hb (Nat.le_refl _))
            have B18 := hide (B17.out.below hb (Nat.le_refl _))
            have C18 := hide (C17.out.below hb (Nat.le_refl _))
            have J18 := hide (J17.out.below hb (Nat.le_refl _))
            have M18 := hide (M17.out.below hb (Nat.le_refl _))
            have K18 := hide (K17.out.below hb (Nat.le_refl _))
            have L18 := hide (L17.out.below hb (Nat.le_refl _))
            have N18 := hide (N17.out.below hb (Nat.le_refl _))
            have O18 := hide (O17.out.below hb (Nat.le_refl _))
            have P18 := hide ho.row
            clear HB17 hb A17 B17 C17 J17 M17 K17 L17 N17 O17
            clear ho
            go_wp2_with fail
            refine (same_yes _ _ _ xs _ P18.out A18.out e3.out).mono ?_
            rintro e w19 ⟨rfl, hb⟩
            have HB19 := hide (below_step HB18.out hb)
            have A19 := hide (A18.out.below hb (Nat.le_refl _))
            have B19 := hide (B18.out.below hb (Nat.le_refl _))
            have C19 := hide (C18.out.below hb (Nat.le_refl _))
            have J19 := hide (J18.out.below hb (Nat.le_refl _))
            have M19 := hide (M18.out.below hb (Nat.le_refl _))
            have K19 := hide (K18.out.below hb (Nat.le_refl _))
            have L19 := hide (L18.out.below hb (Nat.le_refl _))
            have N19 := hide (N18.out.below hb (Nat.le_refl _))
            have O19 := hide (O18.out.below hb (Nat.le_refl _))
            have P19 := hide (P18.out.below hb (Nat.le_refl _))
            clear HB18 hb A18 B18 C18 J18 M18 K18 L18 N18 O18 P18
            go_wp2_with fail
            refine (meet_clock _ _ xs _ _ A19.out J19.out bx.out bj.out).mono ?_
            rintro e w20 ⟨vQ, rfl, ho, hb⟩
            have HB20 := hide (below_step HB19.out hb)
            have A20 := hide (A19.out.below hb (Nat.le_refl _))
            have B20 := hide (B19.out.below hb (Nat.le_refl _))
            have C20 := hide (C19.out.below hb (Nat.le_refl _))
            have J20 := hide (J19.out.below hb (Nat.le_refl _))
            have M20 := hide (M19.out.below hb (Nat.le_refl _))
            have K20 := hide (K19.out.below hb (Nat.le_refl _))
            have L20 := hide (L19.out.below hb (Nat.le_refl _))
            have N20 := hide (N19.out.below hb (Nat.le_refl _))
            have O20 := hide (O19.out.below hb (Nat.le_refl _))
            have P20 := hide (P19.out.below hb (Nat.le_refl _))
            have Q20 := hide ho.row
            clear HB19 hb A19 B19 C19 J19 M19 K19 L19 N19 O19 P19
            clear ho
            go_wp2_with fail
            refine (same_yes _ _ _ xs _ Q20.out A20.out e4.out).mono ?_
            rintro e w21 ⟨rfl, hb⟩
            have HB21 := hide (below_step HB20.out hb)
            have A21 := hide (A20.out.below hb (Nat.le_refl _))
            have B21 := hide (B20.out.below hb (Nat.le_refl _))
            have C21 := hide (C20.out.below hb (Nat.le_refl _))
            have J21 := hide (J20.out.below hb (Nat.le_refl _))
            have M21 := hide (M20.out.below hb (Nat.le_refl _))
            have K21 := hide (K20.out.below hb (Nat.le_refl _))
            have L21 := hide (L20.out.below hb (Nat.le_refl _))
            have N21 := hide (N20.out.below hb (Nat.le_refl _))
            have O21 := hide (O20.out.below hb (Nat.le_refl _))
            have P21 := hide (P20.out.below hb (Nat.le_refl _))
            have Q21 := hide (Q20.out.below hb (Nat.le_refl _))
            clear HB20 hb A20 B20 C20 J20 M20 K20 L20 N20 O20 P20 Q20
            go_wp2_with fail
            go_ret
            exact ⟨rfl, HB21.out⟩
          · rw [hq, Bool.true_and] at t2
            go_enter Try.func5, Try.ntmps5
            go_wp2_with fail
            refine (alive_law _).mono ?_
            rintro e w1 ⟨rfl, hb⟩
            have HB1 := hide (below_step HB0.out hb)
            have A1 := hide (A0.out.below hb (Nat.le_refl _))
            have B1 := hide (B0.out.below hb (Nat.le_refl _))
            have C1 := hide (C0.out.below hb (Nat.le_refl _))
            clear HB0 hb A0 B0 C0
            go_wp2_with fail
            refine (wrong_clock _ xs _ _ A1.out).mono ?_
            rintro e w' ⟨rfl, hw'⟩
            rw [hw']; clear hw' w'
            go_wp2_with fail
            refine (wrong_clock _ ys _ _ B1.out).mono ?_
            rintro e w' ⟨rfl, hw'⟩
            rw [hw']; clear hw' w'
            go_wp2_with fail
            refine (wrong_clock _ zs _ _ C1.out).mono ?_
            rintro e w' ⟨rfl, hw'⟩
            rw [hw']; clear hw' w'
            go_wp2_with fail
            refine (join_clock _ _ xs ys _ A1.out B1.out bx.out bY.out).mono ?_
            rintro e w2 ⟨vJ, rfl, ho, hb⟩
            have HB2 := hide (below_step HB1.out hb)
            have A2 := hide (A1.out.below hb (Nat.le_refl _))
            have B2 := hide (B1.out.below hb (Nat.le_refl _))
            have C2 := hide (C1.out.below hb (Nat.le_refl _))
            have J2 := hide ho.row
            clear HB1 hb A1 B1 C1
            clear ho
            go_wp2_with fail
            refine (meet_clock _ _ xs ys _ A2.out B2.out bx.out bY.out).mono ?_
            rintro e w3 ⟨vM, rfl, ho, hb⟩
            have HB3 := hide (below_step HB2.out hb)
            have A3 := hide (A2.out.below hb (Nat.le_refl _))
            have B3 := hide (B2.out.below hb (Nat.le_refl _))
            have C3 := hide (C2.out.below hb (Nat.le_refl _))
            have J3 := hide (J2.out.below hb (Nat.le_refl _))
            have M3 := hide ho.row
            clear HB2 hb A2 B2 C2 J2
            clear ho
            go_wp2_with fail
            refine (sees_clock _ _ _ xs _ J3.out A3.out).mono ?_
            rintro e w4 ⟨rfl, hb⟩
            have HB4 := hide (below_step HB3.out hb)
            have A4 := hide (A3.out.below hb (Nat.le_refl _))
            have B4 := hide (B3.out.below hb (Nat.le_refl _))
            have C4 := hide (C3.out.below hb (Nat.le_refl _))
            have J4 := hide (J3.out.below hb (Nat.le_refl _))
            have M4 := hide (M3.out.below hb (Nat.le_refl _))
            clear HB3 hb A3 B3 C3 J3 M3
            go_wp2_with fail
            refine (sees_clock _ _ _ ys _ J4.out B4.out).mono ?_
            rintro e w5 ⟨rfl, hb⟩
            have HB5 := hide (below_step HB4.out hb)
            have A5 := hide (A4.out.below hb (Nat.le_refl _))
            have B5 := hide (B4.out.below hb (Nat.le_refl _))
            have C5 := hide (C4.out.below hb (Nat.le_refl _))
            have J5 := hide (J4.out.below hb (Nat.le_refl _))
            have M5 := hide (M4.out.below hb (Nat.le_refl _))
            clear HB4 hb A4 B4 C4 J4 M4
            go_wp2_with fail
            refine (sees_clock _ _ xs _ _ A5.out M5.out).mono ?_
            rintro e w6 ⟨rfl, hb⟩
            have HB6 := hide (below_step HB5.out hb)
            have A6 := hide (A5.out.below hb (Nat.le_refl _))
            have B6 := hide (B5.out.below hb (Nat.le_refl _))
            have C6 := hide (C5.out.below hb (Nat.le_refl _))
            have J6 := hide (J5.out.below hb (Nat.le_refl _))
            have M6 := hide (M5.out.below hb (Nat.le_refl _))
            clear HB5 hb A5 B5 C5 J5 M5
            go_wp2_with fail
            refine (sees_clock _ _ ys _ _ B6.out M6.out).mono ?_
            rintro e w7 ⟨rfl, hb⟩
            have HB7 := hide (below_step HB6.out hb)
            have A7 := hide (A6.out.below hb (Nat.le_refl _))
            have B7 := hide (B6.out.below hb (Nat.le_refl _))
            have C7 := hide (C6.out.below hb (Nat.le_refl _))
            have J7 := hide (J6.out.below hb (Nat.le_refl _))
            have M7 := hide (M6.out.below hb (Nat.le_refl _))
            clear HB6 hb A6 B6 C6 J6 M6
            go_wp2_with fail
            refine (sees_clock _ _ zs xs _ C7.out A7.out).mono ?_
            rintro e w8 ⟨rfl, hb⟩
            have HB8 := hide (below_step HB7.out hb)
            have A8 := hide (A7.out.below hb (Nat.le_refl _))
            have B8 := hide (B7.out.below hb (Nat.le_refl _))
            have C8 := hide (C7.out.below hb (Nat.le_refl _))
            have J8 := hide (J7.out.below hb (Nat.le_refl _))
            have M8 := hide (M7.out.below hb (Nat.le_refl _))
            clear HB7 hb A7 B7 C7 J7 M7
            go_wp2_with fail
            refine (sees_clock _ _ zs _ _ C8.out J8.out).mono ?_
            rintro e w9 ⟨rfl, hb⟩
            have HB9 := hide (below_step HB8.out hb)
            have A9 := hide (A8.out.below hb (Nat.le_refl _))
            have B9 := hide (B8.out.below hb (Nat.le_refl _))
            have C9 := hide (C8.out.below hb (Nat.le_refl _))
            have J9 := hide (J8.out.below hb (Nat.le_refl _))
            have M9 := hide (M8.out.below hb (Nat.le_refl _))
            clear HB8 hb A8 B8 C8 J8 M8
            go_wp2_with fail
            refine (sees_clock _ _ xs zs _ A9.out C9.out).mono ?_
            rintro e w10 ⟨rfl, hb⟩
            have HB10 := hide (below_step HB9.out hb)
            have A10 := hide (A9.out.below hb (Nat.le_refl _))
            have B10 := hide (B9.out.below hb (Nat.le_refl _))
            have C10 := hide (C9.out.below hb (Nat.le_refl _))
            have J10 := hide (J9.out.below hb (Nat.le_refl _))
            have M10 := hide (M9.out.below hb (Nat.le_refl _))
            clear HB9 hb A9 B9 C9 J9 M9
            go_wp2_with fail
            refine (sees_clock _ _ ys zs _ B10.out C10.out).mono ?_
            rintro e w11 ⟨rfl, hb⟩
            have HB11 := hide (below_step HB10.out hb)
            have A11 := hide (A10.out.below hb (Nat.le_refl _))
            have B11 := hide (B10.out.below hb (Nat.le_refl _))
            have C11 := hide (C10.out.below hb (Nat.le_refl _))
            have J11 := hide (J10.out.below hb (Nat.le_refl _))
            have M11 := hide (M10.out.below hb (Nat.le_refl _))
            clear HB10 hb A10 B10 C10 J10 M10
            go_wp2_with fail
            refine (sees_clock _ _ _ zs _ M11.out C11.out).mono ?_
            rintro e w12 ⟨rfl, hb⟩
            have HB12 := hide (below_step HB11.out hb)
            have A12 := hide (A11.out.below hb (Nat.le_refl _))
            have B12 := hide (B11.out.below hb (Nat.le_refl _))
            have C12 := hide (C11.out.below hb (Nat.le_refl _))
            have J12 := hide (J11.out.below hb (Nat.le_refl _))
            have M12 := hide (M11.out.below hb (Nat.le_refl _))
            clear HB11 hb A11 B11 C11 J11 M11
            go_wp2_with fail
            refine (join_clock _ _ ys zs _ B12.out C12.out bY.out bz.out).mono ?_
            rintro e w13 ⟨vK, rfl, ho, hb⟩
            have HB13 := hide (below_step HB12.out hb)
            have A13 := hide (A12.out.below hb (Nat.le_refl _))
            have B13 := hide (B12.out.below hb (Nat.le_refl _))
            have C13 := hide (C12.out.below hb (Nat.le_refl _))
            have J13 := hide (J12.out.below hb (Nat.le_refl _))
            have M13 := hide (M12.out.below hb (Nat.le_refl _))
            have K13 := hide ho.row
            clear HB12 hb A12 B12 C12 J12 M12
            clear ho
            go_wp2_with fail
            refine (join_clock _ _ xs _ _ A13.out K13.out bx.out bk.out).mono ?_
            rintro e w14 ⟨vL, rfl, ho, hb⟩
            have HB14 := hide (below_step HB13.out hb)
            have A14 := hide (A13.out.below hb (Nat.le_refl _))
            have B14 := hide (B13.out.below hb (Nat.le_refl _))
            have C14 := hide (C13.out.below hb (Nat.le_refl _))
            have J14 := hide (J13.out.below hb (Nat.le_refl _))
            have M14 := hide (M13.out.below hb (Nat.le_refl _))
            have K14 := hide (K13.out.below hb (Nat.le_refl _))
            have L14 := hide ho.row
            clear HB13 hb A13 B13 C13 J13 M13 K13
            clear ho
            go_wp2_with fail
            refine (join_clock _ _ _ zs _ J14.out C14.out bj.out bz.out).mono ?_
            rintro e w15 ⟨vN, rfl, ho, hb⟩
            have HB15 := hide (below_step HB14.out hb)
            have A15 := hide (A14.out.below hb (Nat.le_refl _))
            have B15 := hide (B14.out.below hb (Nat.le_refl _))
            have C15 := hide (C14.out.below hb (Nat.le_refl _))
            have J15 := hide (J14.out.below hb (Nat.le_refl _))
            have M15 := hide (M14.out.below hb (Nat.le_refl _))
            have K15 := hide (K14.out.below hb (Nat.le_refl _))
            have L15 := hide (L14.out.below hb (Nat.le_refl _))
            have N15 := hide ho.row
            clear HB14 hb A14 B14 C14 J14 M14 K14 L14
            clear ho
            go_wp2_with fail
            refine (same_yes _ _ _ _ _ L15.out N15.out e1.out).mono ?_
            rintro e w16 ⟨rfl, hb⟩
            have HB16 := hide (below_step HB15.out hb)
            have A16 := hide (A15.out.below hb (Nat.le_refl _))
            have B16 := hide (B15.out.below hb (Nat.le_refl _))
            have C16 := hide (C15.out.below hb (Nat.le_refl _))
            have J16 := hide (J15.out.below hb (Nat.le_refl _))
            have M16 := hide (M15.out.below hb (Nat.le_refl _))
            have K16 := hide (K15.out.below hb (Nat.le_refl _))
            have L16 := hide (L15.out.below hb (Nat.le_refl _))
            have N16 := hide (N15.out.below hb (Nat.le_refl _))
            clear HB15 hb A15 B15 C15 J15 M15 K15 L15 N15
            go_wp2_with fail
            refine (join_clock _ _ ys xs _ B16.out A16.out bY.out bx.out).mono ?_
            rintro e w17 ⟨vO, rfl, ho, hb⟩
            have HB17 := hide (below_step HB16.out hb)
            have A17 := hide (A16.out.below hb (Nat.le_refl _))
            have B17 := hide (B16.out.below hb (Nat.le_refl _))
            have C17 := hide (C16.out.below hb (Nat.le_refl _))
            have J17 := hide (J16.out.below hb (Nat.le_refl _))
            have M17 := hide (M16.out.below hb (Nat.le_refl _))
            have K17 := hide (K16.out.below hb (Nat.le_refl _))
            have L17 := hide (L16.out.below hb (Nat.le_refl _))
            have N17 := hide (N16.out.below hb (Nat.le_refl _))
            have O17 := hide ho.row
            clear HB16 hb A16 B16 C16 J16 M16 K16 L16 N16
            clear ho
            go_wp2_with fail
            refine (same_yes _ _ _ _ _ J17.out O17.out e2.out).mono ?_
            rintro e w18 ⟨rfl, hb⟩
            have HB18 := hide (below_step HB17.out hb)
            have A18 := hide (A17.out.below hb (Nat.le_refl _))
            have B18 := hide (B17.out.below hb (Nat.le_refl _))
            have C18 := hide (C17.out.below hb (Nat.le_refl _))
            have J18 := hide (J17.out.below hb (Nat.le_refl _))
            have M18 := hide (M17.out.below hb (Nat.le_refl _))
            have K18 := hide (K17.out.below hb (Nat.le_refl _))
            have L18 := hide (L17.out.below hb (Nat.le_refl _))
            have N18 := hide (N17.out.below hb (Nat.le_refl _))
            have O18 := hide (O17.out.below hb (Nat.le_refl _))
            clear HB17 hb A17 B17 C17 J17 M17 K17 L17 N17 O17
            go_wp2_with fail
            refine (join_clock _ _ xs _ _ A18.out M18.out bx.out bm.out).mono ?_
            rintro e w19 ⟨vP, rfl, ho, hb⟩
            have HB19 := hide (below_step HB18.out hb)
            have A19 := hide (A18.out.below hb (Nat.le_refl _))
            have B19 := hide (B18.out.below hb (Nat.le_refl _))
            have C19 := hide (C18.out.below hb (Nat.le_refl _))
            have J19 := hide (J18.out.below hb (Nat.le_refl _))
            have M19 := hide (M18.out.below hb (Nat.le_refl _))
            have K19 := hide (K18.out.below hb (Nat.le_refl _))
            have L19 := hide (L18.out.below hb (Nat.le_refl _))
            have N19 := hide (N18.out.below hb (Nat.le_refl _))
            have O19 := hide (O18.out.below hb (Nat.le_refl _))
            have P19 := hide ho.row
            clear HB18 hb A18 B18 C18 J18 M18 K18 L18 N18 O18
            clear ho
            go_wp2_with fail
            refine (same_yes _ _ _ xs _ P19.out A19.out e3.out).mono ?_
            rintro e w20 ⟨rfl, hb⟩
            have HB20 := hide (below_step HB19.out hb)
            have A20 := hide (A19.out.below hb (Nat.le_refl _))
            have B20 := hide (B19.out.below hb (Nat.le_refl _))
            have C20 := hide (C19.out.below hb (Nat.le_refl _))
            have J20 := hide (J19.out.below hb (Nat.le_refl _))
            have M20 := hide (M19.out.below hb (Nat.le_refl _))
            have K20 := hide (K19.out.below hb (Nat.le_refl _))
            have L20 := hide (L19.out.below hb (Nat.le_refl _))
            have N20 := hide (N19.out.below hb (Nat.le_refl _))
            have O20 := hide (O19.out.below hb (Nat.le_refl _))
            have P20 := hide (P19.out.below hb (Nat.le_refl _))
            clear HB19 hb A19 B19 C19 J19 M19 K19 L19 N19 O19 P19
            go_wp2_with fail
            refine (meet_clock _ _ xs _ _ A20.out J20.out bx.out bj.out).mono ?_
            rintro e w21 ⟨vQ, rfl, ho, hb⟩
            have HB21 := hide (below_step HB20.out hb)
            have A21 := hide (A20.out.below hb (Nat.le_refl _))
            have B21 := hide (B20.out.below hb (Nat.le_refl _))
            have C21 := hide (C20.out.below hb (Nat.le_refl _))
            have J21 := hide (J20.out.below hb (Nat.le_refl _))
            have M21 := hide (M20.out.below hb (Nat.le_refl _))
            have K21 := hide (K20.out.below hb (Nat.le_refl _))
            have L21 := hide (L20.out.below hb (Nat.le_refl _))
            have N21 := hide (N20.out.below hb (Nat.le_refl _))
            have O21 := hide (O20.out.below hb (Nat.le_refl _))
            have P21 := hide (P20.out.below hb (Nat.le_refl _))
            have Q21 := hide ho.row
            clear HB20 hb A20 B20 C20 J20 M20 K20 L20 N20 O20 P20
            clear ho
            go_wp2_with fail
            refine (same_yes _ _ _ xs _ Q21.out A21.out e4.out).mono ?_
            rintro e w22 ⟨rfl, hb⟩
            have HB22 := hide (below_step HB21.out hb)
            have A22 := hide (A21.out.below hb (Nat.le_refl _))
            have B22 := hide (B21.out.below hb (Nat.le_refl _))
            have C22 := hide (C21.out.below hb (Nat.le_refl _))
            have J22 := hide (J21.out.below hb (Nat.le_refl _))
            have M22 := hide (M21.out.below hb (Nat.le_refl _))
            have K22 := hide (K21.out.below hb (Nat.le_refl _))
            have L22 := hide (L21.out.below hb (Nat.le_refl _))
            have N22 := hide (N21.out.below hb (Nat.le_refl _))
            have O22 := hide (O21.out.below hb (Nat.le_refl _))
            have P22 := hide (P21.out.below hb (Nat.le_refl _))
            have Q22 := hide (Q21.out.below hb (Nat.le_refl _))
            clear HB21 hb A21 B21 C21 J21 M21 K21 L21 N21 O21 P21 Q21
            go_wp2_with fail
            go_ret
            exact ⟨rfl, HB22.out⟩
        · rw [hp, Bool.true_and] at t1
          cases hq : seesC xs zs
          · rw [hq, Bool.false_and] at t2
            go_enter Try.func5, Try.ntmps5
            go_wp2_with fail
            refine (alive_law _).mono ?_
            rintro e w1 ⟨rfl, hb⟩
            have HB1 := hide (below_step HB0.out hb)
            have A1 := hide (A0.out.below hb (Nat.le_refl _))
            have B1 := hide (B0.out.below hb (Nat.le_refl _))
            have C1 := hide (C0.out.below hb (Nat.le_refl _))
            clear HB0 hb A0 B0 C0
            go_wp2_with fail
            refine (wrong_clock _ xs _ _ A1.out).mono ?_
            rintro e w' ⟨rfl, hw'⟩
            rw [hw']; clear hw' w'
            go_wp2_with fail
            refine (wrong_clock _ ys _ _ B1.out).mono ?_
            rintro e w' ⟨rfl, hw'⟩
            rw [hw']; clear hw' w'
            go_wp2_with fail
            refine (wrong_clock _ zs _ _ C1.out).mono ?_
            rintro e w' ⟨rfl, hw'⟩
            rw [hw']; clear hw' w'
            go_wp2_with fail
            refine (join_clock _ _ xs ys _ A1.out B1.out bx.out bY.out).mono ?_
            rintro e w2 ⟨vJ, rfl, ho, hb⟩
            have HB2 := hide (below_step HB1.out hb)
            have A2 := hide (A1.out.below hb (Nat.le_refl _))
            have B2 := hide (B1.out.below hb (Nat.le_refl _))
            have C2 := hide (C1.out.below hb (Nat.le_refl _))
            have J2 := hide ho.row
            clear HB1 hb A1 B1 C1
            clear ho
            go_wp2_with fail
            refine (meet_clock _ _ xs ys _ A2.out B2.out bx.out bY.out).mono ?_
            rintro e w3 ⟨vM, rfl, ho, hb⟩
            have HB3 := hide (below_step HB2.out hb)
            have A3 := hide (A2.out.below hb (Nat.le_refl _))
            have B3 := hide (B2.out.below hb (Nat.le_refl _))
            have C3 := hide (C2.out.below hb (Nat.le_refl _))
            have J3 := hide (J2.out.below hb (Nat.le_refl _))
            have M3 := hide ho.row
            clear HB2 hb A2 B2 C2 J2
            clear ho
            go_wp2_with fail
            refine (sees_clock _ _ _ xs _ J3.out A3.out).mono ?_
            rintro e w4 ⟨rfl, hb⟩
            have HB4 := hide (below_step HB3.out hb)
            have A4 := hide (A3.out.below hb (Nat.le_refl _))
            have B4 := hide (B3.out.below hb (Nat.le_refl _))
            have C4 := hide (C3.out.below hb (Nat.le_refl _))
            have J4 := hide (J3.out.below hb (Nat.le_refl _))
            have M4 := hide (M3.out.below hb (Nat.le_refl _))
            clear HB3 hb A3 B3 C3 J3 M3
            go_wp2_with fail
            refine (sees_clock _ _ _ ys _ J4.out B4.out).mono ?_
            rintro e w5 ⟨rfl, hb⟩
            have HB5 := hide (below_step HB4.out hb)
            have A5 := hide (A4.out.below hb (Nat.le_refl _))
            have B5 := hide (B4.out.below hb (Nat.le_refl _))
            have C5 := hide (C4.out.below hb (Nat.le_refl _))
            have J5 := hide (J4.out.below hb (Nat.le_refl _))
            have M5 := hide (M4.out.below hb (Nat.le_refl _))
            clear HB4 hb A4 B4 C4 J4 M4
            go_wp2_with fail
            refine (sees_clock _ _ xs _ _ A5.out M5.out).mono ?_
            rintro e w6 ⟨rfl, hb⟩
            have HB6 := hide (below_step HB5.out hb)
            have A6 := hide (A5.out.below hb (Nat.le_refl _))
            have B6 := hide (B5.out.below hb (Nat.le_refl _))
            have C6 := hide (C5.out.below hb (Nat.le_refl _))
            have J6 := hide (J5.out.below hb (Nat.le_refl _))
            have M6 := hide (M5.out.below hb (Nat.le_refl _))
            clear HB5 hb A5 B5 C5 J5 M5
            go_wp2_with fail
            refine (sees_clock _ _ ys _ _ B6.out M6.out).mono ?_
            rintro e w7 ⟨rfl, hb⟩
            have HB7 := hide (below_step HB6.out hb)
            have A7 := hide (A6.out.below hb (Nat.le_refl _))
            have B7 := hide (B6.out.below hb (Nat.le_refl _))
            have C7 := hide (C6.out.below hb (Nat.le_refl _))
            have J7 := hide (J6.out.below hb (Nat.le_refl _))
            have M7 := hide (M6.out.below hb (Nat.le_refl _))
            clear HB6 hb A6 B6 C6 J6 M6
            go_wp2_with fail
            refine (sees_clock _ _ zs xs _ C7.out A7.out).mono ?_
            rintro e w8 ⟨rfl, hb⟩
            have HB8 := hide (below_step HB7.out hb)
            have A8 := hide (A7.out.below hb (Nat.le_refl _))
            have B8 := hide (B7.out.below hb (Nat.le_refl _))
            have C8 := hide (C7.out.below hb (Nat.le_refl _))
            have J8 := hide (J7.out.below hb (Nat.le_refl _))
            have M8 := hide (M7.out.below hb (Nat.le_refl _))
            clear HB7 hb A7 B7 C7 J7 M7
            go_wp2_with fail
            refine (sees_clock _ _ zs ys _ C8.out B8.out).mono ?_
            rintro e w9 ⟨rfl, hb⟩
            have HB9 := hide (below_step HB8.out hb)
            have A9 := hide (A8.out.below hb (Nat.le_refl _))
            have B9 := hide (B8.out.below hb (Nat.le_refl _))
            have C9 := hide (C8.out.below hb (Nat.le_refl _))
            have J9 := hide (J8.out.below hb (Nat.le_refl _))
            have M9 := hide (M8.out.below hb (Nat.le_refl _))
            clear HB8 hb A8 B8 C8 J8 M8
            go_wp2_with fail
            refine (sees_clock _ _ zs _ _ C9.out J9.out).mono ?_
            rintro e w10 ⟨rfl, hb⟩
            have HB10 := hide (below_step HB9.out hb)
            have A10 := hide (A9.out.below hb (Nat.le_refl _))
            have B10 := hide (B9.out.below hb (Nat.le_refl _))
            have C10 := hide (C9.out.below hb (Nat.le_refl _))
            have J10 := hide (J9.out.below hb (Nat.le_refl _))
            have M10 := hide (M9.out.below hb (Nat.le_refl _))
            clear HB9 hb A9 B9 C9 J9 M9
            go_wp2_with fail
            refine (sees_clock _ _ xs zs _ A10.out C10.out).mono ?_
            rintro e w11 ⟨rfl, hb⟩
            have HB11 := hide (below_step HB10.out hb)
            have A11 := hide (A10.out.below hb (Nat.le_refl _))
            have B11 := hide (B10.out.below hb (Nat.le_refl _))
            have C11 := hide (C10.out.below hb (Nat.le_refl _))
            have J11 := hide (J10.out.below hb (Nat.le_refl _))
            have M11 := hide (M10.out.below hb (Nat.le_refl _))
            clear HB10 hb A10 B10 C10 J10 M10
            go_wp2_with fail
            refine (sees_clock _ _ _ zs _ M11.out C11.out).mono ?_
            rintro e w12 ⟨rfl, hb⟩
            have HB12 := hide (below_step HB11.out hb)
            have A12 := hide (A11.out.below hb (Nat.le_refl _))
            have B12 := hide (B11.out.below hb (Nat.le_refl _))
            have C12 := hide (C11.out.below hb (Nat.le_refl _))
            have J12 := hide (J11.out.below hb (Nat.le_refl _))
            have M12 := hide (M11.out.below hb (Nat.le_refl _))
            clear HB11 hb A11 B11 C11 J11 M11
            go_wp2_with fail
            refine (join_clock _ _ ys zs _ B12.out C12.out bY.out bz.out).mono ?_
            rintro e w13 ⟨vK, rfl, ho, hb⟩
            have HB13 := hide (below_step HB12.out hb)
            have A13 := hide (A12.out.below hb (Nat.le_refl _))
            have B13 := hide (B12.out.below hb (Nat.le_refl _))
            have C13 := hide (C12.out.below hb (Nat.le_refl _))
            have J13 := hide (J12.out.below hb (Nat.le_refl _))
            have M13 := hide (M12.out.below hb (Nat.le_refl _))
            have K13 := hide ho.row
            clear HB12 hb A12 B12 C12 J12 M12
            clear ho
            go_wp2_with fail
            refine (join_clock _ _ xs _ _ A13.out K13.out bx.out bk.out).mono ?_
            rintro e w14 ⟨vL, rfl, ho, hb⟩
            have HB14 := hide (below_step HB13.out hb)
            have A14 := hide (A13.out.below hb (Nat.le_refl _))
            have B14 := hide (B13.out.below hb (Nat.le_refl _))
            have C14 := hide (C13.out.below hb (Nat.le_refl _))
            have J14 := hide (J13.out.below hb (Nat.le_refl _))
            have M14 := hide (M13.out.below hb (Nat.le_refl _))
            have K14 := hide (K13.out.below hb (Nat.le_refl _))
            have L14 := hide ho.row
            clear HB13 hb A13 B13 C13 J13 M13 K13
            clear ho
            go_wp2_with fail
            refine (join_clock _ _ _ zs _ J14.out C14.out bj.out bz.out).mono ?_
            rintro e w15 ⟨vN, rfl, ho, hb⟩
            have HB15 := hide (below_step HB14.out hb)
            have A15 := hide (A14.out.below hb (Nat.le_refl _))
            have B15 := hide (B14.out.below hb (Nat.le_refl _))
            have C15 := hide (C14.out.below hb (Nat.le_refl _))
            have J15 := hide (J14.out.below hb (Nat.le_refl _))
            have M15 := hide (M14.out.below hb (Nat.le_refl _))
            have K15 := hide (K14.out.below hb (Nat.le_refl _))
            have L15 := hide (L14.out.below hb (Nat.le_refl _))
            have N15 := hide ho.row
            clear HB14 hb A14 B14 C14 J14 M14 K14 L14
            clear ho
            go_wp2_with fail
            refine (same_yes _ _ _ _ _ L15.out N15.out e1.out).mono ?_
            rintro e w16 ⟨rfl, hb⟩
            have HB16 := hide (below_step HB15.out hb)
            have A16 := hide (A15.out.below hb (Nat.le_refl _))
            have B16 := hide (B15.out.below hb (Nat.le_refl _))
            have C16 := hide (C15.out.below hb (Nat.le_refl _))
            have J16 := hide (J15.out.below hb (Nat.le_refl _))
            have M16 := hide (M15.out.below hb (Nat.le_refl _))
            have K16 := hide (K15.out.below hb (Nat.le_refl _))
            have L16 := hide (L15.out.below hb (Nat.le_refl _))
            have N16 := hide (N15.out.below hb (Nat.le_refl _))
            clear HB15 hb A15 B15 C15 J15 M15 K15 L15 N15
            go_wp2_with fail
            refine (join_clock _ _ ys xs _ B16.out A16.out bY.out bx.out).mono ?_
            rintro e w17 ⟨vO, rfl, ho, hb⟩
            have HB17 := hide (below_step HB16.out hb)
            have A17 := hide (A16.out.below hb (Nat.le_refl _))
            have B17 := hide (B16.out.below hb (Nat.le_refl _))
            have C17 := hide (C16.out.below hb (Nat.le_refl _))
            have J17 := hide (J16.out.below hb (Nat.le_refl _))
            have M17 := hide (M16.out.below hb (Nat.le_refl _))
            have K17 := hide (K16.out.below hb (Nat.le_refl _))
            have L17 := hide (L16.out.below hb (Nat.le_refl _))
            have N17 := hide (N16.out.below hb (Nat.le_refl _))
            have O17 := hide ho.row
            clear HB16 hb A16 B16 C16 J16 M16 K16 L16 N16
            clear ho
            go_wp2_with fail
            refine (same_yes _ _ _ _ _ J17.out O17.out e2.out).mono ?_
            rintro e w18 ⟨rfl, hb⟩
            have HB18 := hide (below_step HB17.out hb)
            have A18 := hide (A17.out.below hb (Nat.le_refl _))
            have B18 := hide (B17.out.below hb (Nat.le_refl _))
            have C18 := hide (C17.out.below hb (Nat.le_refl _))
            have J18 := hide (J17.out.below hb (Nat.le_refl _))
            have M18 := hide (M17.out.below hb (Nat.le_refl _))
            have K18 := hide (K17.out.below hb (Nat.le_refl _))
            have L18 := hide (L17.out.below hb (Nat.le_refl _))
            have N18 := hide (N17.out.below hb (Nat.le_refl _))
            have O18 := hide (O17.out.below hb (Nat.le_refl _))
            clear HB17 hb A17 B17 C17 J17 M17 K17 L17 N17 O17
            go_wp2_with fail
            refine (join_clock _ _ xs _ _ A18.out M18.out bx.out bm.out).mono ?_
            rintro e w19 ⟨vP, rfl, ho, hb⟩
            have HB19 := hide (below_step HB18.out hb)
            have A19 := hide (A18.out.below hb (Nat.le_refl _))
            have B19 := hide (B18.out.below hb (Nat.le_refl _))
            have C19 := hide (C18.out.below hb (Nat.le_refl _))
            have J19 := hide (J18.out.below hb (Nat.le_refl _))
            have M19 := hide (M18.out.below hb (Nat.le_refl _))
            have K19 := hide (K18.out.below hb (Nat.le_refl _))
            have L19 := hide (L18.out.below hb (Nat.le_refl _))
            have N19 := hide (N18.out.below hb (Nat.le_refl _))
            have O19 := hide (O18.out.below hb (Nat.le_refl _))
            have P19 := hide ho.row
            clear HB18 hb A18 B18 C18 J18 M18 K18 L18 N18 O18
            clear ho
            go_wp2_with fail
            refine (same_yes _ _ _ xs _ P19.out A19.out e3.out).mono ?_
            rintro e w20 ⟨rfl, hb⟩
            have HB20 := hide (below_step HB19.out hb)
            have A20 := hide (A19.out.below hb (Nat.le_refl _))
            have B20 := hide (B19.out.below hb (Nat.le_refl _))
            have C20 := hide (C19.out.below hb (Nat.le_refl _))
            have J20 := hide (J19.out.below hb (Nat.le_refl _))
            have M20 := hide (M19.out.below hb (Nat.le_refl _))
            have K20 := hide (K19.out.below hb (Nat.le_refl _))
            have L20 := hide (L19.out.below hb (Nat.le_refl _))
            have N20 := hide (N19.out.below hb (Nat.le_refl _))
            have O20 := hide (O19.out.below hb (Nat.le_refl _))
            have P20 := hide (P19.out.below hb (Nat.le_refl _))
            clear HB19 hb A19 B19 C19 J19 M19 K19 L19 N19 O19 P19
            go_wp2_with fail
            refine (meet_clock _ _ xs _ _ A20.out J20.out bx.out bj.out).mono ?_
            rintro e w21 ⟨vQ, rfl, ho, hb⟩
            have HB21 := hide (below_step HB20.out hb)
            have A21 := hide (A20.out.below hb (Nat.le_refl _))
            have B21 := hide (B20.out.below hb (Nat.le_refl _))
            have C21 := hide (C20.out.below hb (Nat.le_refl _))
            have J21 := hide (J20.out.below hb (Nat.le_refl _))
            have M21 := hide (M20.out.below hb (Nat.le_refl _))
            have K21 := hide (K20.out.below hb (Nat.le_refl _))
            have L21 := hide (L20.out.below hb (Nat.le_refl _))
            have N21 := hide (N20.out.below hb (Nat.le_refl _))
            have O21 := hide (O20.out.below hb (Nat.le_refl _))
            have P21 := hide (P20.out.below hb (Nat.le_refl _))
            have Q21 := hide ho.row
            clear HB20 hb A20 B20 C20 J20 M20 K20 L20 N20 O20 P20
            clear ho
            go_wp2_with fail
            refine (same_yes _ _ _ xs _ Q21.out A21.out e4.out).mono ?_
            rintro e w22 ⟨rfl, hb⟩
            have HB22 := hide (below_step HB21.out hb)
            have A22 := hide (A21.out.below hb (Nat.le_refl _))
            have B22 := hide (B21.out.below hb (Nat.le_refl _))
            have C22 := hide (C21.out.below hb (Nat.le_refl _))
            have J22 := hide (J21.out.below hb (Nat.le_refl _))
            have M22 := hide (M21.out.below hb (Nat.le_refl _))
            have K22 := hide (K21.out.below hb (Nat.le_refl _))
            have L22 := hide (L21.out.below hb (Nat.le_refl _))
            have N22 := hide (N21.out.below hb (Nat.le_refl _))
            have O22 := hide (O21.out.below hb (Nat.le_refl _))
            have P22 := hide (P21.out.below hb (Nat.le_refl _))
            have Q22 := hide (Q21.out.below hb (Nat.le_refl _))
            clear HB21 hb A21 B21 C21 J21 M21 K21 L21 N21 O21 P21 Q21
            go_wp2_with fail
            go_ret
            exact ⟨rfl, HB22.out⟩
          · rw [hq, Bool.true_and] at t2
            go_enter Try.func5, Try.ntmps5
            go_wp2_with fail
            refine (alive_law _).mono ?_
            rintro e w1 ⟨rfl, hb⟩
            have HB1 := hide (below_step HB0.out hb)
            have A1 := hide (A0.out.below hb (Nat.le_refl _))
            have B1 := hide (B0.out.below hb (Nat.le_refl _))
            have C1 := hide (C0.out.below hb (Nat.le_refl _))
            clear HB0 hb A0 B0 C0
            go_wp2_with fail
            refine (wrong_clock _ xs _ _ A1.out).mono ?_
            rintro e w' ⟨rfl, hw'⟩
            rw [hw']; clear hw' w'
            go_wp2_with fail
            refine (wrong_clock _ ys _ _ B1.out).mono ?_
            rintro e w' ⟨rfl, hw'⟩
            rw [hw']; clear hw' w'
            go_wp2_with fail
            refine (wrong_clock _ zs _ _ C1.out).mono ?_
            rintro e w' ⟨rfl, hw'⟩
            rw [hw']; clear hw' w'
            go_wp2_with fail
            refine (join_clock _ _ xs ys _ A1.out B1.out bx.out bY.out).mono ?_
            rintro e w2 ⟨vJ, rfl, ho, hb⟩
            have HB2 := hide (below_step HB1.out hb)
            have A2 := hide (A1.out.below hb (Nat.le_refl _))
            have B2 := hide (B1.out.below hb (Nat.le_refl _))
            have C2 := hide (C1.out.below hb (Nat.le_refl _))
            have J2 := hide ho.row
            clear HB1 hb A1 B1 C1
            clear ho
            go_wp2_with fail
            refine (meet_clock _ _ xs ys _ A2.out B2.out bx.out bY.out).mono ?_
            rintro e w3 ⟨vM, rfl, ho, hb⟩
            have HB3 := hide (below_step HB2.out hb)
            have A3 := hide (A2.out.below hb (Nat.le_refl _))
            have B3 := hide (B2.out.below hb (Nat.le_refl _))
            have C3 := hide (C2.out.below hb (Nat.le_refl _))
            have J3 := hide (J2.out.below hb (Nat.le_refl _))
            have M3 := hide ho.row
            clear HB2 hb A2 B2 C2 J2
            clear ho
            go_wp2_with fail
            refine (sees_clock _ _ _ xs _ J3.out A3.out).mono ?_
            rintro e w4 ⟨rfl, hb⟩
            have HB4 := hide (below_step HB3.out hb)
            have A4 := hide (A3.out.below hb (Nat.le_refl _))
            have B4 := hide (B3.out.below hb (Nat.le_refl _))
            have C4 := hide (C3.out.below hb (Nat.le_refl _))
            have J4 := hide (J3.out.below hb (Nat.le_refl _))
            have M4 := hide (M3.out.below hb (Nat.le_refl _))
            clear HB3 hb A3 B3 C3 J3 M3
            go_wp2_with fail
            refine (sees_clock _ _ _ ys _ J4.out B4.out).mono ?_
            rintro e w5 ⟨rfl, hb⟩
            have HB5 := hide (below_step HB4.out hb)
            have A5 := hide (A4.out.below hb (Nat.le_refl _))
            have B5 := hide (B4.out.below hb (Nat.le_refl _))
            have C5 := hide (C4.out.below hb (Nat.le_refl _))
            have J5 := hide (J4.out.below hb (Nat.le_refl _))
            have M5 := hide (M4.out.below hb (Nat.le_refl _))
            clear HB4 hb A4 B4 C4 J4 M4
            go_wp2_with fail
            refine (sees_clock _ _ xs _ _ A5.out M5.out).mono ?_
            rintro e w6 ⟨rfl, hb⟩
            have HB6 := hide (below_step HB5.out hb)
            have A6 := hide (A5.out.below hb (Nat.le_refl _))
            have B6 := hide (B5.out.below hb (Nat.le_refl _))
            have C6 := hide (C5.out.below hb (Nat.le_refl _))
            have J6 := hide (J5.out.below hb (Nat.le_refl _))
            have M6 := hide (M5.out.below hb (Nat.le_refl _))
            clear HB5 hb A5 B5 C5 J5 M5
            go_wp2_with fail
            refine (sees_clock _ _ ys _ _ B6.out M6.out).mono ?_
            rintro e w7 ⟨rfl, hb⟩
            have HB7 := hide (below_step HB6.out hb)
            have A7 := hide (A6.out.below hb (Nat.le_refl _))
            have B7 := hide (B6.out.below hb (Nat.le_refl _))
            have C7 := hide (C6.out.below hb (Nat.le_refl _))
            have J7 := hide (J6.out.below hb (Nat.le_refl _))
            have M7 := hide (M6.out.below hb (Nat.le_refl _))
            clear HB6 hb A6 B6 C6 J6 M6
            go_wp2_with fail
            refine (sees_clock _ _ zs xs _ C7.out A7.out).mono ?_
            rintro e w8 ⟨rfl, hb⟩
            have HB8 := hide (below_step HB7.out hb)
            have A8 := hide (A7.out.below hb (Nat.le_refl _))
            have B8 := hide (B7.out.below hb (Nat.le_refl _))
            have C8 := hide (C7.out.below hb (Nat.le_refl _))
            have J8 := hide (J7.out.below hb (Nat.le_refl _))
            have M8 := hide (M7.out.below hb (Nat.le_refl _))
            clear HB7 hb A7 B7 C7 J7 M7
            go_wp2_with fail
            refine (sees_clock _ _ zs ys _ C8.out B8.out).mono ?_
            rintro e w9 ⟨rfl, hb⟩
            have HB9 := hide (below_step HB8.out hb)
            have A9 := hide (A8.out.below hb (Nat.le_refl _))
            have B9 := hide (B8.out.below hb (Nat.le_refl _))
            have C9 := hide (C8.out.below hb (Nat.le_refl _))
            have J9 := hide (J8.out.below hb (Nat.le_refl _))
            have M9 := hide (M8.out.below hb (Nat.le_refl _))
            clear HB8 hb A8 B8 C8 J8 M8
            go_wp2_with fail
            refine (sees_clock _ _ zs _ _ C9.out J9.out).mono ?_
            rintro e w10 ⟨rfl, hb⟩
            have HB10 := hide (below_step HB9.out hb)
            have A10 := hide (A9.out.below hb (Nat.le_refl _))
            have B10 := hide (B9.out.below hb (Nat.le_refl _))
            have C10 := hide (C9.out.below hb (Nat.le_refl _))
            have J10 := hide (J9.out.below hb (Nat.le_refl _))
            have M10 := hide (M9.out.below hb (Nat.le_refl _))
            clear HB9 hb A9 B9 C9 J9 M9
            go_wp2_with fail
            refine (sees_clock _ _ xs zs _ A10.out C10.out).mono ?_
            rintro e w11 ⟨rfl, hb⟩
            have HB11 := hide (below_step HB10.out hb)
            have A11 := hide (A10.out.below hb (Nat.le_refl _))
            have B11 := hide (B10.out.below hb (Nat.le_refl _))
            have C11 := hide (C10.out.below hb (Nat.le_refl _))
            have J11 := hide (J10.out.below hb (Nat.le_refl _))
            have M11 := hide (M10.out.below hb (Nat.le_refl _))
            clear HB10 hb A10 B10 C10 J10 M10
            go_wp2_with fail
            refine (sees_clock _ _ ys zs _ B11.out C11.out).mono ?_
            rintro e w12 ⟨rfl, hb⟩
            have HB12 := hide (below_step HB11.out hb)
            have A12 := hide (A11.out.below hb (Nat.le_refl _))
            have B12 := hide (B11.out.below hb (Nat.le_refl _))
            have C12 := hide (C11.out.below hb (Nat.le_refl _))
            have J12 := hide (J11.out.below hb (Nat.le_refl _))
            have M12 := hide (M11.out.below hb (Nat.le_refl _))
            clear HB11 hb A11 B11 C11 J11 M11
            go_wp2_with fail
            refine (sees_clock _ _ _ zs _ M12.out C12.out).mono ?_
            rintro e w13 ⟨rfl, hb⟩
            have HB13 := hide (below_step HB12.out hb)
            have A13 := hide (A12.out.below hb (Nat.le_refl _))
            have B13 := hide (B12.out.below hb (Nat.le_refl _))
            have C13 := hide (C12.out.below hb (Nat.le_refl _))
            have J13 := hide (J12.out.below hb (Nat.le_refl _))
            have M13 := hide (M12.out.below hb (Nat.le_refl _))
            clear HB12 hb A12 B12 C12 J12 M12
            go_wp2_with fail
            refine (join_clock _ _ ys zs _ B13.out C13.out bY.out bz.out).mono ?_
            rintro e w14 ⟨vK, rfl, ho, hb⟩
            have HB14 := hide (below_step HB13.out hb)
            have A14 := hide (A13.out.below hb (Nat.le_refl _))
            have B14 := hide (B13.out.below hb (Nat.le_refl _))
            have C14 := hide (C13.out.below hb (Nat.le_refl _))
            have J14 := hide (J13.out.below hb (Nat.le_refl _))
            have M14 := hide (M13.out.below hb (Nat.le_refl _))
            have K14 := hide ho.row
            clear HB13 hb A13 B13 C13 J13 M13
            clear ho
            go_wp2_with fail
            refine (join_clock _ _ xs _ _ A14.out K14.out bx.out bk.out).mono ?_
            rintro e w15 ⟨vL, rfl, ho, hb⟩
            have HB15 := hide (below_step HB14.out hb)
            have A15 := hide (A14.out.below hb (Nat.le_refl _))
            have B15 := hide (B14.out.below hb (Nat.le_refl _))
            have C15 := hide (C14.out.below hb (Nat.le_refl _))
            have J15 := hide (J14.out.below hb (Nat.le_refl _))
            have M15 := hide (M14.out.below hb (Nat.le_refl _))
            have K15 := hide (K14.out.below hb (Nat.le_refl _))
            have L15 := hide ho.row
            clear HB14 hb A14 B14 C14 J14 M14 K14
            clear ho
            go_wp2_with fail
            refine (join_clock _ _ _ zs _ J15.out C15.out bj.out bz.out).mono ?_
            rintro e w16 ⟨vN, rfl, ho, hb⟩
            have HB16 := hide (below_step HB15.out hb)
            have A16 := hide (A15.out.below hb (Nat.le_refl _))
            have B16 := hide (B15.out.below hb (Nat.le_refl _))
            have C16 := hide (C15.out.below hb (Nat.le_refl _))
            have J16 := hide (J15.out.below hb (Nat.le_refl _))
            have M16 := hide (M15.out.below hb (Nat.le_refl _))
            have K16 := hide (K15.out.below hb (Nat.le_refl _))
            have L16 := hide (L15.out.below hb (Nat.le_refl _))
            have N16 := hide ho.row
            clear HB15 hb A15 B15 C15 J15 M15 K15 L15
            clear ho
            go_wp2_with fail
            refine (same_yes _ _ _ _ _ L16.out N16.out e1.out).mono ?_
            rintro e w17 ⟨rfl, hb⟩
            have HB17 := hide (below_step HB16.out hb)
            have A17 := hide (A16.out.below hb (Nat.le_refl _))
            have B17 := hide (B16.out.below hb (Nat.le_refl _))
            have C17 := hide (C16.out.below hb (Nat.le_refl _))
            have J17 := hide (J16.out.below hb (Nat.le_refl _))
            have M17 := hide (M16.out.below hb (Nat.le_refl _))
            have K17 := hide (K16.out.below hb (Nat.le_refl _))
            have L17 := hide (L16.out.below hb (Nat.le_refl _))
            have N17 := hide (N16.out.below hb (Nat.le_refl _))
            clear HB16 hb A16 B16 C16 J16 M16 K16 L16 N16
            go_wp2_with fail
            refine (join_clock _ _ ys xs _ B17.out A17.out bY.out bx.out).mono ?_
            rintro e w18 ⟨vO, rfl, ho, hb⟩
            have HB18 := hide (below_step HB17.out hb)
            have A18 := hide (A17.out.below hb (Nat.le_refl _))
            have B18 := hide (B17.out.below hb (Nat.le_refl _))
            have C18 := hide (C17.out.below hb (Nat.le_refl _))
            have J18 := hide (J17.out.below hb (Nat.le_refl _))
            have M18 := hide (M17.out.below hb (Nat.le_refl _))
            have K18 := hide (K17.out.below hb (Nat.le_refl _))
            have L18 := hide (L17.out.below hb (Nat.le_refl _))
            have N18 := hide (N17.out.below hb (Nat.le_refl _))
            have O18 := hide ho.row
            clear HB17 hb A17 B17 C17 J17 M17 K17 L17 N17
            clear ho
            go_wp2_with fail
            refine (same_yes _ _ _ _ _ J18.out O18.out e2.out).mono ?_
            rintro e w19 ⟨rfl, hb⟩
            have HB19 := hide (below_step HB18.out hb)
            have A19 := hide (A18.out.below hb (Nat.le_refl _))
            have B19 := hide (B18.out.below hb (Nat.le_refl _))
            have C19 := hide (C18.out.below hb (Nat.le_refl _))
            have J19 := hide (J18.out.below hb (Nat.le_refl _))
            have M19 := hide (M18.out.below hb (Nat.le_refl _))
            have K19 := hide (K18.out.below hb (Nat.le_refl _))
            have L19 := hide (L18.out.below hb (Nat.le_refl _))
            have N19 := hide (N18.out.below hb (Nat.le_refl _))
            have O19 := hide (O18.out.below hb (Nat.le_refl _))
            clear HB18 hb A18 B18 C18 J18 M18 K18 L18 N18 O18
            go_wp2_with fail
            refine (join_clock _ _ xs _ _ A19.out M19.out bx.out bm.out).mono ?_
            rintro e w20 ⟨vP, rfl, ho, hb⟩
            have HB20 := hide (below_step HB19.out hb)
            have A20 := hide (A19.out.below hb (Nat.le_refl _))
            have B20 := hide (B19.out.below hb (Nat.le_refl _))
            have C20 := hide (C19.out.below hb (Nat.le_refl _))
            have J20 := hide (J19.out.below hb (Nat.le_refl _))
            have M20 := hide (M19.out.below hb (Nat.le_refl _))
            have K20 := hide (K19.out.below hb (Nat.le_refl _))
            have L20 := hide (L19.out.below hb (Nat.le_refl _))
            have N20 := hide (N19.out.below hb (Nat.le_refl _))
            have O20 := hide (O19.out.below hb (Nat.le_refl _))
            have P20 := hide ho.row
            clear HB19 hb A19 B19 C19 J19 M19 K19 L19 N19 O19
            clear ho
            go_wp2_with fail
            refine (same_yes _ _ _ xs _ P20.out A20.out e3.out).mono ?_
            rintro e w21 ⟨rfl, hb⟩
            have HB21 := hide (below_step HB20.out hb)
            have A21 := hide (A20.out.below hb (Nat.le_refl _))
            have B21 := hide (B20.out.below hb (Nat.le_refl _))
            have C21 := hide (C20.out.below hb (Nat.le_refl _))
            have J21 := hide (J20.out.below hb (Nat.le_refl _))
            have M21 := hide (M20.out.below hb (Nat.le_refl _))
            have K21 := hide (K20.out.below hb (Nat.le_refl _))
            have L21 := hide (L20.out.below hb (Nat.le_refl _))
            have N21 := hide (N20.out.below hb (Nat.le_refl _))
            have O21 := hide (O20.out.below hb (Nat.le_refl _))
            have P21 := hide (P20.out.below hb (Nat.le_refl _))
            clear HB20 hb A20 B20 C20 J20 M20 K20 L20 N20 O20 P20
            go_wp2_with fail
            refine (meet_clock _ _ xs _ _ A21.out J21.out bx.out bj.out).mono ?_
            rintro e w22 ⟨vQ, rfl, ho, hb⟩
            have HB22 := hide (below_step HB21.out hb)
            have A22 := hide (A21.out.below hb (Nat.le_refl _))
            have B22 := hide (B21.out.below hb (Nat.le_refl _))
            have C22 := hide (C21.out.below hb (Nat.le_refl _))
            have J22 := hide (J21.out.below hb (Nat.le_refl _))
            have M22 := hide (M21.out.below hb (Nat.le_refl _))
            have K22 := hide (K21.out.below hb (Nat.le_refl _))
            have L22 := hide (L21.out.below hb (Nat.le_refl _))
            have N22 := hide (N21.out.below hb (Nat.le_refl _))
            have O22 := hide (O21.out.below hb (Nat.le_refl _))
            have P22 := hide (P21.out.below hb (Nat.le_refl _))
            have Q22 := hide ho.row
            clear HB21 hb A21 B21 C21 J21 M21 K21 L21 N21 O21 P21
            clear ho
            go_wp2_with fail
            refine (same_yes _ _ _ xs _ Q22.out A22.out e4.out).mono ?_
            rintro e w23 ⟨rfl, hb⟩
            have HB23 := hide (below_step HB22.out hb)
            have A23 := hide (A22.out.below hb (Nat.le_refl _))
            have B23 := hide (B22.out.below hb (Nat.le_refl _))
            have C23 := hide (C22.out.below hb (Nat.le_refl _))
            have J23 := hide (J22.out.below hb (Nat.le_refl _))
            have M23 := hide (M22.out.below hb (Nat.le_refl _))
            have K23 := hide (K22.out.below hb (Nat.le_refl _))
            have L23 := hide (L22.out.below hb (Nat.le_refl _))
            have N23 := hide (N22.out.below hb (Nat.le_refl _))
            have O23 := hide (O22.out.below hb (Nat.le_refl _))
            have P23 := hide (P22.out.below hb (Nat.le_refl _))
            have Q23 := hide (Q22.out.below hb (Nat.le_refl _))
            clear HB22 hb A22 B22 C22 J22 M22 K22 L22 N22 O22 P22 Q22
            go_wp2_with fail
            go_ret
            exact ⟨rfl, HB23.out⟩
      · have hne : (wrongC zs xs.length != 0) = true := by simp [h3]
        clear h3
        go_enter Try.func5, Try.ntmps5
        go_wp2_with fail
        refine (alive_law _).mono ?_
        rintro e w1 ⟨rfl, hb⟩
        have HB1 := hide (below_step HB0.out hb)
        have A1 := hide (A0.out.below hb (Nat.le_refl _))
        have B1 := hide (B0.out.below hb (Nat.le_refl _))
        have C1 := hide (C0.out.below hb (Nat.le_refl _))
        clear HB0 hb A0 B0 C0
        go_wp2_with fail
        refine (wrong_clock _ xs _ _ A1.out).mono ?_
        rintro e w' ⟨rfl, hw'⟩
        rw [hw']; clear hw' w'
        go_wp2_with fail
        refine (wrong_clock _ ys _ _ B1.out).mono ?_
        rintro e w' ⟨rfl, hw'⟩
        rw [hw']; clear hw' w'
        go_wp2_with fail
        refine (wrong_clock _ zs _ _ C1.out).mono ?_
        rintro e w' ⟨rfl, hw'⟩
        rw [hw']; clear hw' w'
        go_wp2_with fail
        go_ret
        exact ⟨rfl, HB1.out⟩
    · have hne : (wrongC ys xs.length != 0) = true := by simp [h2]
      clear h2
      go_enter Try.func5, Try.ntmps5
      go_wp2_with fail
      refine (alive_law _).mono ?_
      rintro e w1 ⟨rfl, hb⟩
      have HB1 := hide (below_step HB0.out hb)
      have A1 := hide (A0.out.below hb (Nat.le_refl _))
      have B1 := hide (B0.out.below hb (Nat.le_refl _))
      have C1 := hide (C0.out.below hb (Nat.le_refl _))
      clear HB0 hb A0 B0 C0
      go_wp2_with fail
      refine (wrong_clock _ xs _ _ A1.out).mono ?_
      rintro e w' ⟨rfl, hw'⟩
      rw [hw']; clear hw' w'
      go_wp2_with fail
      refine (wrong_clock _ ys _ _ B1.out).mono ?_
      rintro e w' ⟨rfl, hw'⟩
      rw [hw']; clear hw' w'
      go_wp2_with fail
      go_ret
      exact ⟨rfl, HB1.out⟩
  · have hne : (wrongC xs xs.length != 0) = true := by simp [h1]
    clear h1
    go_enter Try.func5, Try.ntmps5
    go_wp2_with fail
    refine (alive_law _).mono ?_
    rintro e w1 ⟨rfl, hb⟩
    have HB1 := hide (below_step HB0.out hb)
    have A1 := hide (A0.out.below hb (Nat.le_refl _))
    have B1 := hide (B0.out.below hb (Nat.le_refl _))
    have C1 := hide (C0.out.below hb (Nat.le_refl _))
    clear HB0 hb A0 B0 C0
    go_wp2_with fail
    refine (wrong_clock _ xs _ _ A1.out).mono ?_
    rintro e w' ⟨rfl, hw'⟩
    rw [hw']; clear hw' w'
    go_wp2_with fail
    go_ret
    exact ⟨rfl, HB1.out⟩
end Go.Proofs.Ytiomdleoafakkaa
