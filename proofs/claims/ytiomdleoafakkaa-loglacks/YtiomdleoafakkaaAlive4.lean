/- The closed fact that the statements of the third chapter ask first is true: the walk. -/
import Derived.Test.YtiomdleoafakkaaAlive3
namespace Go.Proofs.Ytiomdleoafakkaa
open Go.RowKit

set_option maxRecDepth 100000 in
set_option maxHeartbeats 1000000 in
theorem alive3 (w : World) : Calls Try.prog 35 #[] w fun e w' => e = .returned (.bool true) ∧ Below w.heap.size w w' := by
  obtain ⟨w0, rfl⟩ : ∃ w0, w0 = w := ⟨w, rfl⟩
  have HB0 := hide (Below.refl w0.heap.size w0)
  go_enter Try.func35, Try.ntmps35
  have HB1 := hide (below_step HB0.out (Below.plus (Below.refl _ w0) (.cells #[.int .i64 0, .int .i64 0] 3)))
  have A1 := hide (row_two w0 0 0)
  clear HB0 
  go_wp2_with fail
  refine (up_fn 0 _ [0, 0] _ A1.out).mono ?_
  rintro e w2 ⟨rfl, hb⟩
  have HB2 := hide (below_step HB1.out hb)
  have A2 := hide (A1.out.below hb (Nat.le_refl _))
  clear HB1 hb A1
  have HB3 := hide (below_step HB2.out (Below.plus (Below.refl _ w2) (.cells #[.int .i64 0, .int .i64 0] 3)))
  have A3 := hide (A2.out.below (Below.plus (Below.refl _ w2) (.cells #[.int .i64 0, .int .i64 0] 3)) (Nat.le_refl _))
  have B3 := hide (row_two w2 0 0)
  clear HB2 A2
  go_wp2_with fail
  refine (up_fn 1 _ [0, 0] _ B3.out).mono ?_
  rintro e w4 ⟨rfl, hb⟩
  have HB4 := hide (below_step HB3.out hb)
  have A4 := hide (A3.out.below hb (Nat.le_refl _))
  have B4 := hide (B3.out.below hb (Nat.le_refl _))
  clear HB3 hb A3 B3
  have HB5 := hide (below_step HB4.out (Below.plus (Below.refl _ w4) (.cells #[.int .i64 1, .int .i64 1] 3)))
  have A5 := hide (A4.out.below (Below.plus (Below.refl _ w4) (.cells #[.int .i64 1, .int .i64 1] 3)) (Nat.le_refl _))
  have B5 := hide (B4.out.below (Below.plus (Below.refl _ w4) (.cells #[.int .i64 1, .int .i64 1] 3)) (Nat.le_refl _))
  have C5 := hide (row_two w4 1 1)
  clear HB4 A4 B4
  go_wp2_with fail
  refine (up_fn 0 _ [1, 1] _ C5.out).mono ?_
  rintro e w6 ⟨rfl, hb⟩
  have HB6 := hide (below_step HB5.out hb)
  have A6 := hide (A5.out.below hb (Nat.le_refl _))
  have B6 := hide (B5.out.below hb (Nat.le_refl _))
  have C6 := hide (C5.out.below hb (Nat.le_refl _))
  clear HB5 hb A5 B5 C5
  have HB7 := hide (below_step HB6.out (Below.plus (Below.refl _ w6) (.cells #[.int .i64 0, .slice (some ⟨w0.heap.size, 0, none⟩) 2 2, .int .i64 5, .int .i64 1, .int .i64 1, .int .i64 1, .slice (some ⟨w2.heap.size, 0, none⟩) 2 2, .int .i64 5, .int .i64 1, .int .i64 1, .int .i64 0, .slice (some ⟨w4.heap.size, 0, none⟩) 2 2, .int .i64 5, .int .i64 1, .int .i64 1] 38)))
  have A7 := hide (A6.out.below (Below.plus (Below.refl _ w6) (.cells #[.int .i64 0, .slice (some ⟨w0.heap.size, 0, none⟩) 2 2, .int .i64 5, .int .i64 1, .int .i64 1, .int .i64 1, .slice (some ⟨w2.heap.size, 0, none⟩) 2 2, .int .i64 5, .int .i64 1, .int .i64 1, .int .i64 0, .slice (some ⟨w4.heap.size, 0, none⟩) 2 2, .int .i64 5, .int .i64 1, .int .i64 1] 38)) (Nat.le_refl _))
  have B7 := hide (B6.out.below (Below.plus (Below.refl _ w6) (.cells #[.int .i64 0, .slice (some ⟨w0.heap.size, 0, none⟩) 2 2, .int .i64 5, .int .i64 1, .int .i64 1, .int .i64 1, .slice (some ⟨w2.heap.size, 0, none⟩) 2 2, .int .i64 5, .int .i64 1, .int .i64 1, .int .i64 0, .slice (some ⟨w4.heap.size, 0, none⟩) 2 2, .int .i64 5, .int .i64 1, .int .i64 1] 38)) (Nat.le_refl _))
  have C7 := hide (C6.out.below (Below.plus (Below.refl _ w6) (.cells #[.int .i64 0, .slice (some ⟨w0.heap.size, 0, none⟩) 2 2, .int .i64 5, .int .i64 1, .int .i64 1, .int .i64 1, .slice (some ⟨w2.heap.size, 0, none⟩) 2 2, .int .i64 5, .int .i64 1, .int .i64 1, .int .i64 0, .slice (some ⟨w4.heap.size, 0, none⟩) 2 2, .int .i64 5, .int .i64 1, .int .i64 1] 38)) (Nat.le_refl _))
  have L7 := hide (Box.new w6 [.int .i64 0, .slice (some ⟨w0.heap.size, 0, none⟩) 2 2, .int .i64 5, .int .i64 1, .int .i64 1, .int .i64 1, .slice (some ⟨w2.heap.size, 0, none⟩) 2 2, .int .i64 5, .int .i64 1, .int .i64 1, .int .i64 0, .slice (some ⟨w4.heap.size, 0, none⟩) 2 2, .int .i64 5, .int .i64 1, .int .i64 1] 38)
  clear HB6 A6 B6 C6
  have M7 : Hid (LogV (w6.alloc (.cells #[.int .i64 0, .slice (some ⟨w0.heap.size, 0, none⟩) 2 2, .int .i64 5, .int .i64 1, .int .i64 1, .int .i64 1, .slice (some ⟨w2.heap.size, 0, none⟩) 2 2, .int .i64 5, .int .i64 1, .int .i64 1, .int .i64 0, .slice (some ⟨w4.heap.size, 0, none⟩) 2 2, .int .i64 5, .int .i64 1, .int .i64 1] 38)) (.slice (some ⟨w6.heap.size, 0, none⟩) 3 3) [u0, u1, u2]) := (log_box (ps := [(u0, .slice (some ⟨w0.heap.size, 0, none⟩) 2 2), (u1, .slice (some ⟨w2.heap.size, 0, none⟩) 2 2), (u2, .slice (some ⟨w4.heap.size, 0, none⟩) 2 2)]) L7.out (by intro p hp; simp at hp; rcases hp with rfl | rfl | rfl; exact A7.out; exact B7.out; exact C7.out) (by simp))
  have HB8 := hide (below_step HB7.out (Below.plus (Below.refl _ (w6.alloc (.cells #[.int .i64 0, .slice (some ⟨w0.heap.size, 0, none⟩) 2 2, .int .i64 5, .int .i64 1, .int .i64 1, .int .i64 1, .slice (some ⟨w2.heap.size, 0, none⟩) 2 2, .int .i64 5, .int .i64 1, .int .i64 1, .int .i64 0, .slice (some ⟨w4.heap.size, 0, none⟩) 2 2, .int .i64 5, .int .i64 1, .int .i64 1] 38))) (.cells #[.int .i64 0, .int .i64 0] 3)))
  have A8 := hide (A7.out.below (Below.plus (Below.refl _ (w6.alloc (.cells #[.int .i64 0, .slice (some ⟨w0.heap.size, 0, none⟩) 2 2, .int .i64 5, .int .i64 1, .int .i64 1, .int .i64 1, .slice (some ⟨w2.heap.size, 0, none⟩) 2 2, .int .i64 5, .int .i64 1, .int .i64 1, .int .i64 0, .slice (some ⟨w4.heap.size, 0, none⟩) 2 2, .int .i64 5, .int .i64 1, .int .i64 1] 38))) (.cells #[.int .i64 0, .int .i64 0] 3)) (Nat.le_refl _))
  have B8 := hide (B7.out.below (Below.plus (Below.refl _ (w6.alloc (.cells #[.int .i64 0, .slice (some ⟨w0.heap.size, 0, none⟩) 2 2, .int .i64 5, .int .i64 1, .int .i64 1, .int .i64 1, .slice (some ⟨w2.heap.size, 0, none⟩) 2 2, .int .i64 5, .int .i64 1, .int .i64 1, .int .i64 0, .slice (some ⟨w4.heap.size, 0, none⟩) 2 2, .int .i64 5, .int .i64 1, .int .i64 1] 38))) (.cells #[.int .i64 0, .int .i64 0] 3)) (Nat.le_refl _))
  have C8 := hide (C7.out.below (Below.plus (Below.refl _ (w6.alloc (.cells #[.int .i64 0, .slice (some ⟨w0.heap.size, 0, none⟩) 2 2, .int .i64 5, .int .i64 1, .int .i64 1, .int .i64 1, .slice (some ⟨w2.heap.size, 0, none⟩) 2 2, .int .i64 5, .int .i64 1, .int .i64 1, .int .i64 0, .slice (some ⟨w4.heap.size, 0, none⟩) 2 2, .int .i64 5, .int .i64 1, .int .i64 1] 38))) (.cells #[.int .i64 0, .int .i64 0] 3)) (Nat.le_refl _))
  have L8 := hide (L7.out.below (Below.plus (Below.refl _ (w6.alloc (.cells #[.int .i64 0, .slice (some ⟨w0.heap.size, 0, none⟩) 2 2, .int .i64 5, .int .i64 1, .int .i64 1, .int .i64 1, .slice (some ⟨w2.heap.size, 0, none⟩) 2 2, .int .i64 5, .int .i64 1, .int .i64 1, .int .i64 0, .slice (some ⟨w4.heap.size, 0, none⟩) 2 2, .int .i64 5, .int .i64 1, .int .i64 1] 38))) (.cells #[.int .i64 0, .int .i64 0] 3)) (Nat.le_refl _))
  have M8 := hide (M7.out.below (Below.plus (Below.refl _ (w6.alloc (.cells #[.int .i64 0, .slice (some ⟨w0.heap.size, 0, none⟩) 2 2, .int .i64 5, .int .i64 1, .int .i64 1, .int .i64 1, .slice (some ⟨w2.heap.size, 0, none⟩) 2 2, .int .i64 5, .int .i64 1, .int .i64 1, .int .i64 0, .slice (some ⟨w4.heap.size, 0, none⟩) 2 2, .int .i64 5, .int .i64 1, .int .i64 1] 38))) (.cells #[.int .i64 0, .int .i64 0] 3)) (Nat.le_refl _))
  have D8 := hide (row_two (w6.alloc (.cells #[.int .i64 0, .slice (some ⟨w0.heap.size, 0, none⟩) 2 2, .int .i64 5, .int .i64 1, .int .i64 1, .int .i64 1, .slice (some ⟨w2.heap.size, 0, none⟩) 2 2, .int .i64 5, .int .i64 1, .int .i64 1, .int .i64 0, .slice (some ⟨w4.heap.size, 0, none⟩) 2 2, .int .i64 5, .int .i64 1, .int .i64 1] 38)) 0 0)
  simp only [World.size_alloc] at D8
  clear HB7 A7 B7 C7 L7 M7
  go_wp2_with fail
  refine (clock_log _ _ [0, 0] [u0, u1, u2] 2 _ D8.out M8.out).mono ?_
  rintro e w9 ⟨vK, rfl, hK, hb⟩
  have HB9 := hide (below_step HB8.out hb)
  have A9 := hide (A8.out.below hb (Nat.le_refl _))
  have B9 := hide (B8.out.below hb (Nat.le_refl _))
  have C9 := hide (C8.out.below hb (Nat.le_refl _))
  have L9 := hide (L8.out.below hb (Nat.le_refl _))
  have M9 := hide (M8.out.below hb (Nat.le_refl _))
  have D9 := hide (D8.out.below hb (Nat.le_refl _))
  have K9 := hide hK
  clear HB8 hb A8 B8 C8 L8 M8 D8
  rw [alive_clock.1, alive_clock.2.1]
  rw [alive_clock.2.2] at K9
  obtain ⟨aK, cK, hvK, -, -, -⟩ := id K9.out
  subst hvK
  clear hK
  have HB10 := hide (below_step HB9.out (Below.plus (Below.refl _ w9) (.cells #[.int .i64 0, .int .i64 0] 50)))
  have A10 := hide (A9.out.below (Below.plus (Below.refl _ w9) (.cells #[.int .i64 0, .int .i64 0] 50)) (Nat.le_refl _))
  have B10 := hide (B9.out.below (Below.plus (Below.refl _ w9) (.cells #[.int .i64 0, .int .i64 0] 50)) (Nat.le_refl _))
  have C10 := hide (C9.out.below (Below.plus (Below.refl _ w9) (.cells #[.int .i64 0, .int .i64 0] 50)) (Nat.le_refl _))
  have L10 := hide (L9.out.below (Below.plus (Below.refl _ w9) (.cells #[.int .i64 0, .int .i64 0] 50)) (Nat.le_refl _))
  have M10 := hide (M9.out.below (Below.plus (Below.refl _ w9) (.cells #[.int .i64 0, .int .i64 0] 50)) (Nat.le_refl _))
  have D10 := hide (D9.out.below (Below.plus (Below.refl _ w9) (.cells #[.int .i64 0, .int .i64 0] 50)) (Nat.le_refl _))
  have K10 := hide (K9.out.below (Below.plus (Below.refl _ w9) (.cells #[.int .i64 0, .int .i64 0] 50)) (Nat.le_refl _))
  have F10 := hide (Box.new w9 [.int .i64 0, .int .i64 0] 50)
  clear HB9 A9 B9 C9 L9 M9 D9 K9
  have HB11 := hide (below_step HB10.out (Below.plus (Below.refl _ (w9.alloc (.cells #[.int .i64 0, .int .i64 0] 50))) (.cells #[.int .i64 2, .int .i64 1] 3)))
  have A11 := hide (A10.out.below (Below.plus (Below.refl _ (w9.alloc (.cells #[.int .i64 0, .int .i64 0] 50))) (.cells #[.int .i64 2, .int .i64 1] 3)) (Nat.le_refl _))
  have B11 := hide (B10.out.below (Below.plus (Below.refl _ (w9.alloc (.cells #[.int .i64 0, .int .i64 0] 50))) (.cells #[.int .i64 2, .int .i64 1] 3)) (Nat.le_refl _))
  have C11 := hide (C10.out.below (Below.plus (Below.refl _ (w9.alloc (.cells #[.int .i64 0, .int .i64 0] 50))) (.cells #[.int .i64 2, .int .i64 1] 3)) (Nat.le_refl _))
  have L11 := hide (L10.out.below (Below.plus (Below.refl _ (w9.alloc (.cells #[.int .i64 0, .int .i64 0] 50))) (.cells #[.int .i64 2, .int .i64 1] 3)) (Nat.le_refl _))
  have M11 := hide (M10.out.below (Below.plus (Below.refl _ (w9.alloc (.cells #[.int .i64 0, .int .i64 0] 50))) (.cells #[.int .i64 2, .int .i64 1] 3)) (Nat.le_refl _))
  have D11 := hide (D10.out.below (Below.plus (Below.refl _ (w9.alloc (.cells #[.int .i64 0, .int .i64 0] 50))) (.cells #[.int .i64 2, .int .i64 1] 3)) (Nat.le_refl _))
  have K11 := hide (K10.out.below (Below.plus (Below.refl _ (w9.alloc (.cells #[.int .i64 0, .int .i64 0] 50))) (.cells #[.int .i64 2, .int .i64 1] 3)) (Nat.le_refl _))
  have F11 := hide (F10.out.below (Below.plus (Below.refl _ (w9.alloc (.cells #[.int .i64 0, .int .i64 0] 50))) (.cells #[.int .i64 2, .int .i64 1] 3)) (Nat.le_refl _))
  have E11 := hide (row_two (w9.alloc (.cells #[.int .i64 0, .int .i64 0] 50)) 2 1)
  simp only [World.size_alloc] at E11
  clear HB10 A10 B10 C10 L10 M10 D10 K10 F10
  go_wp2_with fail
  refine (same_yes _ _ [2, 1] [2, 1] _ K11.out E11.out rfl).mono ?_
  rintro e w12 ⟨rfl, hb⟩
  have HB12 := hide (below_step HB11.out hb)
  have A12 := hide (A11.out.below hb (Nat.le_refl _))
  have B12 := hide (B11.out.below hb (Nat.le_refl _))
  have C12 := hide (C11.out.below hb (Nat.le_refl _))
  have L12 := hide (L11.out.below hb (Nat.le_refl _))
  have M12 := hide (M11.out.below hb (Nat.le_refl _))
  have D12 := hide (D11.out.below hb (Nat.le_refl _))
  have K12 := hide (K11.out.below hb (Nat.le_refl _))
  have F12 := hide (F11.out.below hb (Nat.le_refl _))
  have E12 := hide (E11.out.below hb (Nat.le_refl _))
  clear HB11 hb A11 B11 C11 L11 M11 D11 K11 F11 E11
  have HB13 := hide (below_step HB12.out (Below.plus (Below.refl _ w12) (.cells #[.int .i64 1, .int .i64 0] 3)))
  have A13 := hide (A12.out.below (Below.plus (Below.refl _ w12) (.cells #[.int .i64 1, .int .i64 0] 3)) (Nat.le_refl _))
  have B13 := hide (B12.out.below (Below.plus (Below.refl _ w12) (.cells #[.int .i64 1, .int .i64 0] 3)) (Nat.le_refl _))
  have C13 := hide (C12.out.below (Below.plus (Below.refl _ w12) (.cells #[.int .i64 1, .int .i64 0] 3)) (Nat.le_refl _))
  have L13 := hide (L12.out.below (Below.plus (Below.refl _ w12) (.cells #[.int .i64 1, .int .i64 0] 3)) (Nat.le_refl _))
  have M13 := hide (M12.out.below (Below.plus (Below.refl _ w12) (.cells #[.int .i64 1, .int .i64 0] 3)) (Nat.le_refl _))
  have D13 := hide (D12.out.below (Below.plus (Below.refl _ w12) (.cells #[.int .i64 1, .int .i64 0] 3)) (Nat.le_refl _))
  have K13 := hide (K12.out.below (Below.plus (Below.refl _ w12) (.cells #[.int .i64 1, .int .i64 0] 3)) (Nat.le_refl _))
  have F13 := hide (F12.out.below (Below.plus (Below.refl _ w12) (.cells #[.int .i64 1, .int .i64 0] 3)) (Nat.le_refl _))
  have E13 := hide (E12.out.below (Below.plus (Below.refl _ w12) (.cells #[.int .i64 1, .int .i64 0] 3)) (Nat.le_refl _))
  have G13 := hide (row_two w12 1 0)
  clear HB12 A12 B12 C12 L12 M12 D12 K12 F12 E12
  go_wp2_with fail
  refine (lacks_log _ _ [u0, u1, u2] [1, 0] _ M13.out G13.out alive_small (by simp)).mono ?_
  rintro e w14 ⟨vH, rfl, hH, hb⟩
  have HB14 := hide (below_step HB13.out hb)
  have A14 := hide (A13.out.below hb (Nat.le_refl _))
  have B14 := hide (B13.out.below hb (Nat.le_refl _))
  have C14 := hide (C13.out.below hb (Nat.le_refl _))
  have L14 := hide (L13.out.below hb (Nat.le_refl _))
  have M14 := hide (M13.out.below hb (Nat.le_refl _))
  have D14 := hide (D13.out.below hb (Nat.le_refl _))
  have K14 := hide (K13.out.below hb (Nat.le_refl _))
  have F14 := hide (F13.out.below hb (Nat.le_refl _))
  have E14 := hide (E13.out.below hb (Nat.le_refl _))
  have G14 := hide (G13.out.below hb (Nat.le_refl _))
  have H14 := hide hH
  clear HB13 hb A13 B13 C13 L13 M13 D13 K13 F13 E13 G13
  rw [alive_lacks] at H14
  obtain ⟨aH, cH, hvH, -, -, -⟩ := H14.out
  subst hvH
  clear hH
  clear H14
  go_wp2_with fail
  refine (heads_alive _ _ _ _ _ A14.out B14.out C14.out L14.out).mono ?_
  rintro e w15 ⟨vN, rfl, hN, hb⟩
  have HB15 := hide (below_step HB14.out hb)
  have A15 := hide (A14.out.below hb (Nat.le_refl _))
  have B15 := hide (B14.out.below hb (Nat.le_refl _))
  have C15 := hide (C14.out.below hb (Nat.le_refl _))
  have L15 := hide (L14.out.below hb (Nat.le_refl _))
  have M15 := hide (M14.out.below hb (Nat.le_refl _))
  have D15 := hide (D14.out.below hb (Nat.le_refl _))
  have K15 := hide (K14.out.below hb (Nat.le_refl _))
  have F15 := hide (F14.out.below hb (Nat.le_refl _))
  have E15 := hide (E14.out.below hb (Nat.le_refl _))
  have G15 := hide (G14.out.below hb (Nat.le_refl _))
  have N15 := hide hN
  clear HB14 hb A14 B14 C14 L14 M14 D14 K14 F14 E14 G14
  obtain ⟨aN, cN, hvN, -, -, -⟩ := id N15.out
  subst hvN
  clear hN
  have HB16 := hide (below_step HB15.out (Below.plus (Below.refl _ w15) (.cells #[.int .i64 2] 3)))
  have A16 := hide (A15.out.below (Below.plus (Below.refl _ w15) (.cells #[.int .i64 2] 3)) (Nat.le_refl _))
  have B16 := hide (B15.out.below (Below.plus (Below.refl _ w15) (.cells #[.int .i64 2] 3)) (Nat.le_refl _))
  have C16 := hide (C15.out.below (Below.plus (Below.refl _ w15) (.cells #[.int .i64 2] 3)) (Nat.le_refl _))
  have L16 := hide (L15.out.below (Below.plus (Below.refl _ w15) (.cells #[.int .i64 2] 3)) (Nat.le_refl _))
  have M16 := hide (M15.out.below (Below.plus (Below.refl _ w15) (.cells #[.int .i64 2] 3)) (Nat.le_refl _))
  have D16 := hide (D15.out.below (Below.plus (Below.refl _ w15) (.cells #[.int .i64 2] 3)) (Nat.le_refl _))
  have K16 := hide (K15.out.below (Below.plus (Below.refl _ w15) (.cells #[.int .i64 2] 3)) (Nat.le_refl _))
  have F16 := hide (F15.out.below (Below.plus (Below.refl _ w15) (.cells #[.int .i64 2] 3)) (Nat.le_refl _))
  have E16 := hide (E15.out.below (Below.plus (Below.refl _ w15) (.cells #[.int .i64 2] 3)) (Nat.le_refl _))
  have G16 := hide (G15.out.below (Below.plus (Below.refl _ w15) (.cells #[.int .i64 2] 3)) (Nat.le_refl _))
  have N16 := hide (N15.out.below (Below.plus (Below.refl _ w15) (.cells #[.int .i64 2] 3)) (Nat.le_refl _))
  have P16 := hide (row_one w15 2)
  clear HB15 A15 B15 C15 L15 M15 D15 K15 F15 E15 G15 N15
  go_wp2_with fail
  refine (same_yes _ _ [2] [2] _ N16.out P16.out rfl).mono ?_
  rintro e w17 ⟨rfl, hb⟩
  have HB17 := hide (below_step HB16.out hb)
  have A17 := hide (A16.out.below hb (Nat.le_refl _))
  have B17 := hide (B16.out.below hb (Nat.le_refl _))
  have C17 := hide (C16.out.below hb (Nat.le_refl _))
  have L17 := hide (L16.out.below hb (Nat.le_refl _))
  have M17 := hide (M16.out.below hb (Nat.le_refl _))
  have D17 := hide (D16.out.below hb (Nat.le_refl _))
  have K17 := hide (K16.out.below hb (Nat.le_refl _))
  have F17 := hide (F16.out.below hb (Nat.le_refl _))
  have E17 := hide (E16.out.below hb (Nat.le_refl _))
  have G17 := hide (G16.out.below hb (Nat.le_refl _))
  have N17 := hide (N16.out.below hb (Nat.le_refl _))
  have P17 := hide (P16.out.below hb (Nat.le_refl _))
  clear HB16 hb A16 B16 C16 L16 M16 D16 K16 F16 E16 G16 N16 P16
  go_wp2_with fail
  go_ret
  exact ⟨rfl, HB17.out⟩
end Go.Proofs.Ytiomdleoafakkaa
