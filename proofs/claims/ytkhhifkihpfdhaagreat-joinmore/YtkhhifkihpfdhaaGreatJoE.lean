/- The closed fact that the statements of the fifth chapter ask first is true; those updates of a log that a clock has, played (the statements' own helper). -/
import Derived.Test.YtkhhifkihpfdhaaGreatJoB
import Derived.Test.YtkhhifkihpfdhaaGreatStW
namespace Go.Proofs.YtkhhifkihpfdhaaGreat
open Go.RowKit

set_option maxRecDepth 100000 in
set_option maxHeartbeats 1000000 in
theorem up5_fn (kind key item author : Int) (v : Value) (xs : List Int) (w : World) (h : Row w v xs) :
    Calls Tryz.prog 39 #[.int .i64 kind, .int .i64 key, .int .i64 item, .int .i64 author, v] w fun e w' => e = .returned (.agg #[.int .i64 author, v, .int .i64 kind, .int .i64 key, .int .i64 item]) ∧ Below w.heap.size w w' := by
  obtain ⟨a, cap, rfl, -, -, -⟩ := id h
  clear h
  go_enter Tryz.func39, Tryz.ntmps39
  go_wp2_with fail
  refine bodyPost_ret (results_cell_row rfl _ _ w.heap.size 52 _ (0, 0) _ rfl (Box.new w [.int .i64 author, .slice a xs.length cap, .int .i64 kind, .int .i64 key, .int .i64 item] 52) Tryz.underlying52 rfl Tryz.sizeUpd) rfl ⟨rfl, Below.plus (Below.refl w.heap.size w) _⟩

def z2 : StS := ⟨zeroC 2, [], []⟩
def j0 : Upd := ⟨0, [0, 0], 1, 1, 5⟩
def j1 : Upd := ⟨1, [0, 0], 5, 1, 6⟩
def t0 : StS := ⟨[1, 0], [⟨false, 1, 5, 0, 1⟩], []⟩
def t1 : StS := ⟨[0, 1], [], [⟨1, 1, 6⟩]⟩
def t2 : StS := ⟨[1, 1], [⟨false, 1, 5, 0, 1⟩], [⟨1, 1, 6⟩]⟩
theorem alive_a : playE z2 [j0] = 0 ∧ playA z2 [j0] = 0 ∧ playX z2 [j0] = t0 := ⟨by kernel_rfl, by kernel_rfl, by kernel_rfl⟩
theorem alive_b : playE z2 [j1] = 0 ∧ playA z2 [j1] = 0 ∧ playX z2 [j1] = t1 := ⟨by kernel_rfl, by kernel_rfl, by kernel_rfl⟩
theorem alive_j : joinE t0 t1 = 0 ∧ joinX t0 t1 = t2 := ⟨by kernel_rfl, by kernel_rfl⟩
theorem start2 (w : World) : Calls Tryz.prog 19 #[.int .i64 2] w fun e w' => ∃ v, e = .returned v ∧ StOwn w' w.heap.size v z2 ∧ Below w.heap.size w w' := start_any (k := 2) (by omega) w
set_option maxRecDepth 100000 in
set_option maxHeartbeats 2000000 in
theorem alive5 (w : World) : Calls Tryz.prog 11 #[] w fun e w' => e = .returned (.bool true) ∧ Below w.heap.size w w' := by
  obtain ⟨w0, rfl⟩ : ∃ w0, w0 = w := ⟨w, rfl⟩
  have HB0 := hide (Below.refl w0.heap.size w0)
  go_enter Tryz.func11, Tryz.ntmps11
  go_wp2_with fail
  refine (start2 _).mono ?_
  rintro e w1 ⟨vS, rfl, hS, hb⟩
  have HB1 := hide (below_step HB0.out hb)
  have S1 := hide hS
  clear HB0 hb 
  have HB2 := hide (below_step HB1.out (Below.plus (Below.refl _ w1) (.cells #[.int .i64 0, .int .i64 0] 3)))
  have S2 := hide (S1.out.below (Below.plus (Below.refl _ w1) (.cells #[.int .i64 0, .int .i64 0] 3)) (Nat.le_refl _))
  have A2 := hide (row_twoW w1 0 0)
  clear HB1 S1
  go_wp2_with fail
  refine (up5_fn 1 1 5 0 _ [0, 0] _ A2.out).mono ?_
  rintro e w3 ⟨rfl, hb⟩
  have HB3 := hide (below_step HB2.out hb)
  have S3 := hide (S2.out.below hb (Nat.le_refl _))
  have A3 := hide (A2.out.below hb (Nat.le_refl _))
  clear HB2 hb S2 A2
  have HB4 := hide (below_step HB3.out (Below.plus (Below.refl _ w3) (.cells #[.int .i64 0, .slice (some ⟨w1.heap.size, 0, none⟩) 2 2, .int .i64 1, .int .i64 1, .int .i64 5] 52)))
  have S4 := hide (S3.out.below (Below.plus (Below.refl _ w3) (.cells #[.int .i64 0, .slice (some ⟨w1.heap.size, 0, none⟩) 2 2, .int .i64 1, .int .i64 1, .int .i64 5] 52)) (Nat.le_refl _))
  have A4 := hide (A3.out.below (Below.plus (Below.refl _ w3) (.cells #[.int .i64 0, .slice (some ⟨w1.heap.size, 0, none⟩) 2 2, .int .i64 1, .int .i64 1, .int .i64 5] 52)) (Nat.le_refl _))
  have L4 := hide (Box.new w3 [.int .i64 0, .slice (some ⟨w1.heap.size, 0, none⟩) 2 2, .int .i64 1, .int .i64 1, .int .i64 5] 52)
  clear HB3 S3 A3
  have M4 : Hid (LogV (w3.alloc (.cells #[.int .i64 0, .slice (some ⟨w1.heap.size, 0, none⟩) 2 2, .int .i64 1, .int .i64 1, .int .i64 5] 52)) (.slice (some ⟨w3.heap.size, 0, none⟩) 1 1) [j0]) := (log_boxW (ps := [(j0, .slice (some ⟨w1.heap.size, 0, none⟩) 2 2)]) L4.out (by intro p hp; simp at hp; subst hp; exact A4.out) (by simp))
  go_wp2_with fail
  refine (play_state _ _ z2 [j0] _ S4.out.st M4.out).mono ?_
  rintro e w5 ⟨vP, rfl, hP, hb⟩
  have HB5 := hide (below_step HB4.out hb)
  have S5 := hide (S4.out.below hb (Nat.le_refl _))
  have A5 := hide (A4.out.below hb (Nat.le_refl _))
  have L5 := hide (L4.out.below hb (Nat.le_refl _))
  have M5 := hide (M4.out.below hb (Nat.le_refl _))
  have P5 := hide hP
  clear HB4 hb S4 A4 L4 M4
  rw [alive_a.1, alive_a.2.1]
  rw [alive_a.2.2] at P5
  obtain ⟨x1, y1, x2, y2, x3, y3, hvp⟩ := P5.out.formW
  subst hvp
  clear hP
  clear A5 L5 M5 S5
  have HB6 := hide (below_step HB5.out (Below.plus (Below.refl _ w5) (.cells #[.slice x1 t0.clock.length y1, .slice x2 t0.lives.length y2, .slice x3 t0.tals.length y3] 35)))
  have P6 := hide (P5.out.below (Below.plus (Below.refl _ w5) (.cells #[.slice x1 t0.clock.length y1, .slice x2 t0.lives.length y2, .slice x3 t0.tals.length y3] 35)) (Nat.le_refl _))
  have X6 := hide (Box.new w5 [.slice x1 t0.clock.length y1, .slice x2 t0.lives.length y2, .slice x3 t0.tals.length y3] 35)
  clear HB5 P5
  have HB7 := hide (below_step HB6.out (Below.plus (Below.refl _ (w5.alloc (.cells #[.slice x1 t0.clock.length y1, .slice x2 t0.lives.length y2, .slice x3 t0.tals.length y3] 35))) (.cells #[.int .i64 0, .int .i64 0] 29)))
  have P7 := hide (P6.out.below (Below.plus (Below.refl _ (w5.alloc (.cells #[.slice x1 t0.clock.length y1, .slice x2 t0.lives.length y2, .slice x3 t0.tals.length y3] 35))) (.cells #[.int .i64 0, .int .i64 0] 29)) (Nat.le_refl _))
  have X7 := hide (X6.out.below (Below.plus (Below.refl _ (w5.alloc (.cells #[.slice x1 t0.clock.length y1, .slice x2 t0.lives.length y2, .slice x3 t0.tals.length y3] 35))) (.cells #[.int .i64 0, .int .i64 0] 29)) (Nat.le_refl _))
  have F7 := hide (Box.new (w5.alloc (.cells #[.slice x1 t0.clock.length y1, .slice x2 t0.lives.length y2, .slice x3 t0.tals.length y3] 35)) [.int .i64 0, .int .i64 0] 29)
  clear HB6 P6 X6
  simp only [World.size_alloc] at F7
  go_wp2_with fail
  refine (start2 _).mono ?_
  rintro e w8 ⟨vS, rfl, hS, hb⟩
  have HB8 := hide (below_step HB7.out hb)
  have P8 := hide (P7.out.below hb (Nat.le_refl _))
  have X8 := hide (X7.out.below hb (Nat.le_refl _))
  have F8 := hide (F7.out.below hb (Nat.le_refl _))
  have S8 := hide hS
  clear HB7 hb P7 X7 F7
  have HB9 := hide (below_step HB8.out (Below.plus (Below.refl _ w8) (.cells #[.int .i64 0, .int .i64 0] 3)))
  have P9 := hide (P8.out.below (Below.plus (Below.refl _ w8) (.cells #[.int .i64 0, .int .i64 0] 3)) (Nat.le_refl _))
  have X9 := hide (X8.out.below (Below.plus (Below.refl _ w8) (.cells #[.int .i64 0, .int .i64 0] 3)) (Nat.le_refl _))
  have F9 := hide (F8.out.below (Below.plus (Below.refl _ w8) (.cells #[.int .i64 0, .int .i64 0] 3)) (Nat.le_refl _))
  have S9 := hide (S8.out.below (Below.plus (Below.refl _ w8) (.cells #[.int .i64 0, .int .i64 0] 3)) (Nat.le_refl _))
  have A9 := hide (row_twoW w8 0 0)
  clear HB8 P8 X8 F8 S8
  go_wp2_with fail
  refine (up5_fn 5 1 6 1 _ [0, 0] _ A9.out).mono ?_
  rintro e w10 ⟨rfl, hb⟩
  have HB10 := hide (below_step HB9.out hb)
  have P10 := hide (P9.out.below hb (Nat.le_refl _))
  have X10 := hide (X9.out.below hb (Nat.le_refl _))
  have F10 := hide (F9.out.below hb (Nat.le_refl _))
  have S10 := hide (S9.out.below hb (Nat.le_refl _))
  have A10 := hide (A9.out.below hb (Nat.le_refl _))
  clear HB9 hb P9 X9 F9 S9 A9
  have HB11 := hide (below_step HB10.out (Below.plus (Below.refl _ w10) (.cells #[.int .i64 1, .slice (some ⟨w8.heap.size, 0, none⟩) 2 2, .int .i64 5, .int .i64 1, .int .i64 6] 52)))
  have P11 := hide (P10.out.below (Below.plus (Below.refl _ w10) (.cells #[.int .i64 1, .slice (some ⟨w8.heap.size, 0, none⟩) 2 2, .int .i64 5, .int .i64 1, .int .i64 6] 52)) (Nat.le_refl _))
  have X11 := hide (X10.out.below (Below.plus (Below.refl _ w10) (.cells #[.int .i64 1, .slice (some ⟨w8.heap.size, 0, none⟩) 2 2, .int .i64 5, .int .i64 1, .int .i64 6] 52)) (Nat.le_refl _))
  have F11 := hide (F10.out.below (Below.plus (Below.refl _ w10) (.cells #[.int .i64 1, .slice (some ⟨w8.heap.size, 0, none⟩) 2 2, .int .i64 5, .int .i64 1, .int .i64 6] 52)) (Nat.le_refl _))
  have S11 := hide (S10.out.below (Below.plus (Below.refl _ w10) (.cells #[.int .i64 1, .slice (some ⟨w8.heap.size, 0, none⟩) 2 2, .int .i64 5, .int .i64 1, .int .i64 6] 52)) (Nat.le_refl _))
  have A11 := hide (A10.out.below (Below.plus (Below.refl _ w10) (.cells #[.int .i64 1, .slice (some ⟨w8.heap.size, 0, none⟩) 2 2, .int .i64 5, .int .i64 1, .int .i64 6] 52)) (Nat.le_refl _))
  have L11 := hide (Box.new w10 [.int .i64 1, .slice (some ⟨w8.heap.size, 0, none⟩) 2 2, .int .i64 5, .int .i64 1, .int .i64 6] 52)
  clear HB10 P10 X10 F10 S10 A10
  have M11 : Hid (LogV (w10.alloc (.cells #[.int .i64 1, .slice (some ⟨w8.heap.size, 0, none⟩) 2 2, .int .i64 5, .int .i64 1, .int .i64 6] 52)) (.slice (some ⟨w10.heap.size, 0, none⟩) 1 1) [j1]) := (log_boxW (ps := [(j1, .slice (some ⟨w8.heap.size, 0, none⟩) 2 2)]) L11.out (by intro p hp; simp at hp; subst hp; exact A11.out) (by simp))
  go_wp2_with fail
  refine (play_state _ _ z2 [j1] _ S11.out.st M11.out).mono ?_
  rintro e w12 ⟨vQ, rfl, hQ, hb⟩
  have HB12 := hide (below_step HB11.out hb)
  have P12 := hide (P11.out.below hb (Nat.le_refl _))
  have X12 := hide (X11.out.below hb (Nat.le_refl _))
  have F12 := hide (F11.out.below hb (Nat.le_refl _))
  have S12 := hide (S11.out.below hb (Nat.le_refl _))
  have A12 := hide (A11.out.below hb (Nat.le_refl _))
  have L12 := hide (L11.out.below hb (Nat.le_refl _))
  have M12 := hide (M11.out.below hb (Nat.le_refl _))
  have Q12 := hide hQ
  clear HB11 hb P11 X11 F11 S11 A11 L11 M11
  rw [alive_b.1, alive_b.2.1]
  rw [alive_b.2.2] at Q12
  obtain ⟨z1, u1, z2', u2, z3, u3, hvq⟩ := Q12.out.formW
  subst hvq
  clear hQ
  clear A12 L12 M12 S12
  have HB13 := hide (below_step HB12.out (Below.plus (Below.refl _ w12) (.cells #[.slice z1 t1.clock.length u1, .slice z2' t1.lives.length u2, .slice z3 t1.tals.length u3] 35)))
  have P13 := hide (P12.out.below (Below.plus (Below.refl _ w12) (.cells #[.slice z1 t1.clock.length u1, .slice z2' t1.lives.length u2, .slice z3 t1.tals.length u3] 35)) (Nat.le_refl _))
  have X13 := hide (X12.out.below (Below.plus (Below.refl _ w12) (.cells #[.slice z1 t1.clock.length u1, .slice z2' t1.lives.length u2, .slice z3 t1.tals.length u3] 35)) (Nat.le_refl _))
  have F13 := hide (F12.out.below (Below.plus (Below.refl _ w12) (.cells #[.slice z1 t1.clock.length u1, .slice z2' t1.lives.length u2, .slice z3 t1.tals.length u3] 35)) (Nat.le_refl _))
  have Q13 := hide (Q12.out.below (Below.plus (Below.refl _ w12) (.cells #[.slice z1 t1.clock.length u1, .slice z2' t1.lives.length u2, .slice z3 t1.tals.length u3] 35)) (Nat.le_refl _))
  have Y13 := hide (Box.new w12 [.slice z1 t1.clock.length u1, .slice z2' t1.lives.length u2, .slice z3 t1.tals.length u3] 35)
  clear HB12 P12 X12 F12 Q12
  have HB14 := hide (below_step HB13.out (Below.plus (Below.refl _ (w12.alloc (.cells #[.slice z1 t1.clock.length u1, .slice z2' t1.lives.length u2, .slice z3 t1.tals.length u3] 35))) (.cells #[.int .i64 0, .int .i64 0] 29)))
  have P14 := hide (P13.out.below (Below.plus (Below.refl _ (w12.alloc (.cells #[.slice z1 t1.clock.length u1, .slice z2' t1.lives.length u2, .slice z3 t1.tals.length u3] 35))) (.cells #[.int .i64 0, .int .i64 0] 29)) (Nat.le_refl _))
  have X14 := hide (X13.out.below (Below.plus (Below.refl _ (w12.alloc (.cells #[.slice z1 t1.clock.length u1, .slice z2' t1.lives.length u2, .slice z3 t1.tals.length u3] 35))) (.cells #[.int .i64 0, .int .i64 0] 29)) (Nat.le_refl _))
  have F14 := hide (F13.out.below (Below.plus (Below.refl _ (w12.alloc (.cells #[.slice z1 t1.clock.length u1, .slice z2' t1.lives.length u2, .slice z3 t1.tals.length u3] 35))) (.cells #[.int .i64 0, .int .i64 0] 29)) (Nat.le_refl _))
  have Q14 := hide (Q13.out.below (Below.plus (Below.refl _ (w12.alloc (.cells #[.slice z1 t1.clock.length u1, .slice z2' t1.lives.length u2, .slice z3 t1.tals.length u3] 35))) (.cells #[.int .i64 0, .int .i64 0] 29)) (Nat.le_refl _))
  have Y14 := hide (Y13.out.below (Below.plus (Below.refl _ (w12.alloc (.cells #[.slice z1 t1.clock.length u1, .slice z2' t1.lives.length u2, .slice z3 t1.tals.length u3] 35))) (.cells #[.int .i64 0, .int .i64 0] 29)) (Nat.le_refl _))
  have G14 := hide (Box.new (w12.alloc (.cells #[.slice z1 t1.clock.length u1, .slice z2' t1.lives.length u2, .slice z3 t1.tals.length u3] 35)) [.int .i64 0, .int .i64 0] 29)
  clear HB13 P13 X13 F13 Q13 Y13
  simp only [World.size_alloc] at G14
  have cX0 := X14.out.get 0 rfl
  have cX1 := X14.out.get 1 rfl
  have cX2 := X14.out.get 2 rfl
  have cY0 := Y14.out.get 0 rfl
  have cY1 := Y14.out.get 1 rfl
  have cY2 := Y14.out.get 2 rfl
  go_wp2_with fail
  refine (join_state _ _ t0 t1 _ P14.out.st Q14.out.st).mono ?_
  rintro e w15 ⟨vJ, rfl, hJ, hb⟩
  have HB15 := hide (below_step HB14.out hb)
  have P15 := hide (P14.out.below hb (Nat.le_refl _))
  have X15 := hide (X14.out.below hb (Nat.le_refl _))
  have F15 := hide (F14.out.below hb (Nat.le_refl _))
  have Q15 := hide (Q14.out.below hb (Nat.le_refl _))
  have Y15 := hide (Y14.out.below hb (Nat.le_refl _))
  have G15 := hide (G14.out.below hb (Nat.le_refl _))
  have J15 := hide hJ
  clear HB14 hb P14 X14 F14 Q14 Y14 G14
  rw [alive_j.1]
  rw [alive_j.2] at J15
  clear cX0 cX1 cX2
  clear cY0 cY1 cY2
  obtain ⟨o1, n1, o2, n2, o3, n3, hvj⟩ : ∃ o1 n1 o2 n2 o3 n3, vJ = .agg #[.slice o1 2 n1, .slice o2 1 n2, .slice o3 1 n3] := J15.out.formW
  subst hvj
  clear hJ
  have hrow : Row w15 (.slice o1 2 n1) [1, 1] := by obtain ⟨cv, lv, tv, hag, hc, -, -⟩ := J15.out.st; simp only [Value.agg.injEq, Array.mk.injEq, List.cons.injEq, and_true] at hag; obtain ⟨rfl, -, -⟩ := hag; exact hc
  have I15 := hide hrow
  clear hrow
  have HB16 := hide (below_step HB15.out (Below.plus (Below.refl _ w15) (.cells #[.slice o1 2 n1, .slice o2 1 n2, .slice o3 1 n3] 35)))
  have P16 := hide (P15.out.below (Below.plus (Below.refl _ w15) (.cells #[.slice o1 2 n1, .slice o2 1 n2, .slice o3 1 n3] 35)) (Nat.le_refl _))
  have X16 := hide (X15.out.below (Below.plus (Below.refl _ w15) (.cells #[.slice o1 2 n1, .slice o2 1 n2, .slice o3 1 n3] 35)) (Nat.le_refl _))
  have F16 := hide (F15.out.below (Below.plus (Below.refl _ w15) (.cells #[.slice o1 2 n1, .slice o2 1 n2, .slice o3 1 n3] 35)) (Nat.le_refl _))
  have Q16 := hide (Q15.out.below (Below.plus (Below.refl _ w15) (.cells #[.slice o1 2 n1, .slice o2 1 n2, .slice o3 1 n3] 35)) (Nat.le_refl _))
  have Y16 := hide (Y15.out.below (Below.plus (Below.refl _ w15) (.cells #[.slice o1 2 n1, .slice o2 1 n2, .slice o3 1 n3] 35)) (Nat.le_refl _))
  have G16 := hide (G15.out.below (Below.plus (Below.refl _ w15) (.cells #[.slice o1 2 n1, .slice o2 1 n2, .slice o3 1 n3] 35)) (Nat.le_refl _))
  have J16 := hide (J15.out.below (Below.plus (Below.refl _ w15) (.cells #[.slice o1 2 n1, .slice o2 1 n2, .slice o3 1 n3] 35)) (Nat.le_refl _))
  have I16 := hide (I15.out.below (Below.plus (Below.refl _ w15) (.cells #[.slice o1 2 n1, .slice o2 1 n2, .slice o3 1 n3] 35)) (Nat.le_refl _))
  have K16 := hide (Box.new w15 [.slice o1 2 n1, .slice o2 1 n2, .slice o3 1 n3] 35)
  clear HB15 P15 X15 F15 Q15 Y15 G15 J15 I15
  have cF0 := F16.out.get 0 rfl
  have cF1 := F16.out.get 1 rfl
  have cG0 := G16.out.get 0 rfl
  have cG1 := G16.out.get 1 rfl
  have cK0 := K16.out.get 0 rfl
  have cK1 := K16.out.get 1 rfl
  have cK2 := K16.out.get 2 rfl
  have HB17 := hide (below_step HB16.out (Below.plus (Below.refl _ (w15.alloc (.cells #[.slice o1 2 n1, .slice o2 1 n2, .slice o3 1 n3] 35))) (.cells #[.int .i64 1, .int .i64 1] 3)))
  have P17 := hide (P16.out.below (Below.plus (Below.refl _ (w15.alloc (.cells #[.slice o1 2 n1, .slice o2 1 n2, .slice o3 1 n3] 35))) (.cells #[.int .i64 1, .int .i64 1] 3)) (Nat.le_refl _))
  have X17 := hide (X16.out.below (Below.plus (Below.refl _ (w15.alloc (.cells #[.slice o1 2 n1, .slice o2 1 n2, .slice o3 1 n3] 35))) (.cells #[.int .i64 1, .int .i64 1] 3)) (Nat.le_refl _))
  have F17 := hide (F16.out.below (Below.plus (Below.refl _ (w15.alloc (.cells #[.slice o1 2 n1, .slice o2 1 n2, .slice o3 1 n3] 35))) (.cells #[.int .i64 1, .int .i64 1] 3)) (Nat.le_refl _))
  have Q17 := hide (Q16.out.below (Below.plus (Below.refl _ (w15.alloc (.cells #[.slice o1 2 n1, .slice o2 1 n2, .slice o3 1 n3] 35))) (.cells #[.int .i64 1, .int .i64 1] 3)) (Nat.le_refl _))
  have Y17 := hide (Y16.out.below (Below.plus (Below.refl _ (w15.alloc (.cells #[.slice o1 2 n1, .slice o2 1 n2, .slice o3 1 n3] 35))) (.cells #[.int .i64 1, .int .i64 1] 3)) (Nat.le_refl _))
  have G17 := hide (G16.out.below (Below.plus (Below.refl _ (w15.alloc (.cells #[.slice o1 2 n1, .slice o2 1 n2, .slice o3 1 n3] 35))) (.cells #[.int .i64 1, .int .i64 1] 3)) (Nat.le_refl _))
  have J17 := hide (J16.out.below (Below.plus (Below.refl _ (w15.alloc (.cells #[.slice o1 2 n1, .slice o2 1 n2, .slice o3 1 n3] 35))) (.cells #[.int .i64 1, .int .i64 1] 3)) (Nat.le_refl _))
  have I17 := hide (I16.out.below (Below.plus (Below.refl _ (w15.alloc (.cells #[.slice o1 2 n1, .slice o2 1 n2, .slice o3 1 n3] 35))) (.cells #[.int .i64 1, .int .i64 1] 3)) (Nat.le_refl _))
  have K17 := hide (K16.out.below (Below.plus (Below.refl _ (w15.alloc (.cells #[.slice o1 2 n1, .slice o2 1 n2, .slice o3 1 n3] 35))) (.cells #[.int .i64 1, .int .i64 1] 3)) (Nat.le_refl _))
  have R17 := hide (row_twoW (w15.alloc (.cells #[.slice o1 2 n1, .slice o2 1 n2, .slice o3 1 n3] 35)) 1 1)
  simp only [World.size_alloc] at R17
  clear HB16 P16 X16 F16 Q16 Y16 G16 J16 I16 K16
  go_wp2_with fail
  refine (same_yesW _ _ [1, 1] _ I17.out R17.out).mono ?_
  rintro e w18 ⟨rfl, hb⟩
  have HB18 := hide (below_step HB17.out hb)
  have P18 := hide (P17.out.below hb (Nat.le_refl _))
  have X18 := hide (X17.out.below hb (Nat.le_refl _))
  have F18 := hide (F17.out.below hb (Nat.le_refl _))
  have Q18 := hide (Q17.out.below hb (Nat.le_refl _))
  have Y18 := hide (Y17.out.below hb (Nat.le_refl _))
  have G18 := hide (G17.out.below hb (Nat.le_refl _))
  have J18 := hide (J17.out.below hb (Nat.le_refl _))
  have I18 := hide (I17.out.below hb (Nat.le_refl _))
  have K18 := hide (K17.out.below hb (Nat.le_refl _))
  have R18 := hide (R17.out.below hb (Nat.le_refl _))
  clear HB17 hb P17 X17 F17 Q17 Y17 G17 J17 I17 K17 R17
  go_wp2_with fail
  go_ret
  exact ⟨rfl, HB18.out⟩

/-- From nothing. -/
def z0 (n : Nat) : StS := ⟨zeroC n, [], []⟩
theorem mine_step1 (c : List Int) {l : List Upd} {k : Nat} {u : Upd} (h : l[k]? = some u) : mine c (l.take (k + 1)) = if mineB c u then mine c (l.take k) ++ [u] else mine c (l.take k) := keep_step (mineB c) h
/-- A row of updates of the call's own, whose Seen lie as they lay. -/
theorem OwnP.snoc {R : Value → List Int → Prop} {w : World} {B : Nat} {v sv : Value} {ps : List (Upd × Value)} {u : Upd} (h : ∀ p ∈ ps, R p.2 p.1.seen) (hs : R sv u.seen) (ho : w.ownsRow B 52 5 v (ps.length + 1) (cellsP ps ++ cellsU u sv)) : OwnP R w B v (ps ++ [(u, sv)]) := by
  refine ⟨by rw [cellsP_snoc]; simpa using ho, fun p hp => ?_⟩
  rcases List.mem_append.1 hp with hp | hp
  · exact h p hp
  · simp at hp
    subst hp
    exact hs
set_option maxRecDepth 100000 in
set_option maxHeartbeats 2000000 in
theorem of_fn (lv cv : Value) (l : List Upd) (c : List Int) (n : Nat) (w : World) (hl : LogV w lv l) (hc : Row w cv c) (hn : n ≤ 6) (hcn : c.length = n) (hu : ∀ u ∈ l, wrongU u n = 0) (hln : l.length ≤ 300) :
    Calls Tryz.prog 14 #[lv, cv, .int .i64 n] w fun e w' => ∃ rv, e = .returned (.tuple #[rv, .bool (decide (playE (z0 n) (mine c l) = 0))]) ∧ StOwn w' (w.heap.size + 1) rv (playX (z0 n) (mine c l)) ∧ Below w.heap.size w w' := by
  obtain ⟨i0, hi, hz0, hz1, hz2⟩ := info_parts Tryz.infoUpd
  obtain ⟨a', cap', rfl, -, -, -⟩ := id hl
  obtain ⟨a1, cap1, rfl, -, -, hcc⟩ := id hc
  have HBn := Below.plus (Below.refl w.heap.size w) (.cells #[.slice none 0 0, .slice none 0 0, .slice none 0 0] 35)
  have L0 := hide (hl.below HBn (Nat.le_refl _))
  have C0 := hide (hc.below HBn (Nat.le_refl _))
  have R0 := hide (Box.new w [.slice none 0 0, .slice none 0 0, .slice none 0 0] 35)
  have HB0 := hide HBn
  have HU := hide hu
  have HCN := hide hcn
  obtain ⟨W0, HW0⟩ : ∃ W0, Hid (w.alloc (.cells #[.slice none 0 0, .slice none 0 0, .slice none 0 0] 35) = W0) := ⟨_, rfl⟩
  have HSZ : Hid (W0.heap.size = w.heap.size + 1) := by unfold Hid; rw [← HW0.out]; simp
  rw [HW0.out] at L0 C0 R0 HB0
  clear hl hc HBn hu hcc hcn
  obtain ⟨P, HP⟩ : ∃ P, Hid (playE (z0 n) (mine c l) = P) := ⟨_, rfl⟩
  obtain ⟨X, HX⟩ : ∃ X, Hid (playX (z0 n) (mine c l) = X) := ⟨_, rfl⟩
  obtain ⟨A, HA⟩ : ∃ A, Hid (playA (z0 n) (mine c l) = A) := ⟨_, rfl⟩
  obtain ⟨t, HT⟩ : ∃ t, Hid (decide (P = 0) = t) := ⟨_, rfl⟩
  rw [HP.out, HX.out, HT.out]
  go_enter Tryz.func14, Tryz.ntmps14
  go_wp2_with fail
  rw [HW0.out]
  go_loopw [8, 15] (fun o i wr => ∃ (k : Nat) (ps : List (Upd × Value)), k ≤ l.length ∧ i = .int .i64 k ∧ Hid (ps.map (·.1) = mine c (l.take k)) ∧ Hid (OwnP (Row W0) wr W0.heap.size o ps) ∧ Hid (Below W0.heap.size W0 wr)) (fun _ i _ => l.length - (intOf i).toNat)
  case atStart => exact ⟨0, [], Nat.zero_le _, rfl, rfl, ⟨World.ownsRow_nil _ _ _ _, fun p hp => by simp at hp⟩, Below.refl _ _⟩
  case round =>
    obtain ⟨k, ps, hk, rfl, HM, O10, HB10⟩ := hrel
    obtain ⟨w10, rfl⟩ : ∃ w10, w10 = wr := ⟨wr, rfl⟩
    have C10 := hide (C0.out.below HB10.out (Nat.le_refl _))
    by_cases hlt : k < l.length
    · obtain ⟨u, hu⟩ : ∃ u, l[k]? = some u := ⟨_, List.getElem?_eq_getElem hlt⟩
      have hwu := HU.out u (List.mem_of_getElem? hu)
      obtain ⟨author, seen, kind, key, item⟩ := u
      obtain ⟨w1, w2, w3, -⟩ := wrongU_right hwu
      simp only at w1 w2 w3
      obtain ⟨ka, rfl⟩ : ∃ ka : Nat, author = (ka : Int) := ⟨author.toNat, by omega⟩
      have hsl : seen.length = n := by have := (wrongC_ok w1).2.2.1; omega
      have hka : ka < n := by omega
      have hcn := HCN.out
      have hpl : Hid (ps.length ≤ 300) := by
        have h1 := congrArg List.length HM.out
        have h2 := keep_len (mineB c) l k
        simp only [List.length_map] at h1
        unfold mine at h1
        unfold Hid
        omega
      have hlz := L0.out.below HB10.out (Nat.le_refl _)
      obtain ⟨b, off, a5, cap5, rfl, d0, d1, d2, d3, d4, hR, -⟩ := hlz.at hu
      simp only at d0 d1 d2 d3 d4 hR
      have hR0 : Hid (Row W0 (.slice a5 seen.length cap5) seen) := by
        obtain ⟨b', off', a5', cap5', hbb, e0, e1, -, -, -, hr, -⟩ := L0.out.at hu
        simp only [Option.some.injEq, Addr.mk.injEq, and_true] at hbb
        obtain ⟨rfl, rfl⟩ := hbb
        have e2 := e1
        rw [← HB10.out.cell (p := ⟨b, off + k * 5 + 1, none⟩) (World.block_lt_of_cell? _ _ e1), d1] at e2
        simp only [Option.some.injEq, Value.slice.injEq] at e2
        obtain ⟨rfl, -, rfl⟩ := e2
        exact hr
      obtain ⟨c1, c2, hv, -, -, hcs⟩ := hR
      simp only [Value.slice.injEq] at hv
      obtain ⟨rfl, -, rfl⟩ := hv
      obtain ⟨g5, o5, rfl, e5⟩ := hcs ka (by omega)
      obtain ⟨c1', c2', hv', -, -, hcc⟩ := C10.out
      simp only [Value.slice.injEq] at hv'
      obtain ⟨rfl, -, rfl⟩ := hv'
      obtain ⟨g1, o1, rfl, e1⟩ := hcc ka (by omega)
      obtain ⟨x, HXX⟩ : ∃ x, Hid (seen.getD ka 0 = x) := ⟨_, rfl⟩
      obtain ⟨y, HYY⟩ : ∃ y, Hid (c.getD ka 0 = y) := ⟨_, rfl⟩
      rw [HXX.out] at e5
      rw [HYY.out] at e1
      have HST := hide (mine_step1 c hu)
      have HMB : Hid (mineB c (⟨(ka : Int), seen, kind, key, item⟩ : Upd) = decide (x < y)) := by unfold Hid; rw [← HXX.out, ← HYY.out]; rfl
      rw [HMB.out] at HST
      have hlt' : (k : Int) < (l.length : Int) := by omega
      have h0 : (0 : Int) ≤ (ka : Int) := by omega
      have h1 : (ka : Int) < (seen.length : Int) := by omega
      have h2 : (ka : Int) < (c.length : Int) := by omega
      have hbp := Below.plus (Below.refl _ w10) (.cells #[.int .i64 (ka : Int), .slice (some ⟨g5, o5, none⟩) seen.length cap5, .int .i64 kind, .int .i64 key, .int .i64 item] 52)
      have V11 := hide (Box.new w10 [.int .i64 (ka : Int), .slice (some ⟨g5, o5, none⟩) seen.length cap5, .int .i64 kind, .int .i64 key, .int .i64 item] 52)
      have O11 := hide (O10.out.step hbp (Nat.le_refl _))
      have HB11 := hide (below_step HB10.out hbp)
      have e5b := (hbp.cell (p := ⟨g5, o5 + ka, none⟩) (World.block_lt_of_cell? _ _ e5)).trans e5
      have e1b := (hbp.cell (p := ⟨g1, o1 + ka, none⟩) (World.block_lt_of_cell? _ _ e1)).trans e1
      clear hcn hbp O10 HB10 hcs hcc hlz hu hwu w1 w2 w3 hsl hka C10 C0 L0 HMB
      go_upto_region 5 with fail
      go_cut [50] (fun cc wx => cc = .bool (decide (x < y)) ∧ Hid (Grew (w10.alloc (.cells #[.int .i64 (ka : Int), .slice (some ⟨g5, o5, none⟩) seen.length cap5, .int .i64 kind, .int .i64 key, .int .i64 item] 52)) wx))
      case first =>
        go_quiet (fail)
        go_wp2_with fail
        go_meet
        exact ⟨rfl, hide (below_drewN (Below.refl _ _) _)⟩
      case rest =>
        obtain ⟨rfl, HGR⟩ := hcut
        obtain ⟨w12, rfl⟩ : ∃ w12, w12 = wc := ⟨wc, rfl⟩
        have V12 := hide (V11.out.below HGR.out (Nat.le_refl _))
        have O12 := hide (O11.out.step HGR.out (Nat.le_refl _))
        have HB12 := hide (below_step HB11.out HGR.out)
        clear V11 O11 HB11 HGR e5b e1b
        have v0 := V12.out.get 0 rfl
        have v1 := V12.out.get 1 rfl
        have v2 := V12.out.get 2 rfl
        have v3 := V12.out.get 3 rfl
        have v4 := V12.out.get 4 rfl
        by_cases hxy : x < y
        · have hd : decide (x < y) = true := by simp [hxy]
          rw [hd] at HST
          rw [hd]
          clear hd hxy
          go_wp2_with (at_builtin; refine wpList_append_own _ rfl (.tmp 51) (.tmp 53) 22 rfl W0.heap.size 52 i0 (.agg #[.int .i64 0, .slice none 0 0, .int .i64 0, .int .i64 0, .int .i64 0]) 5 56 Tryz.underlying22 hi hz0 hz1 hz2 rfl (by decide) _ _ _ rfl ((O12.out.step ((Below.refl w12.heap.size w12).alloc (Nat.le_refl _) _) (Nat.le_refl _)).1) ⟨w12.heap.size, 0, none⟩ 1 1 (cellsU (⟨(ka : Int), seen, kind, key, item⟩ : Upd) (.slice (some ⟨g5, o5, none⟩) seen.length cap5)) rfl rfl ?c1 ?c2 ?c3 ?c4 ?c5 ?_)
          case c1 => intro j q hj; match j, hj with | 0, hj => (simp [cellsU] at hj; subst hj; simp) | 1, hj => (simp [cellsU] at hj; subst hj; simp) | 2, hj => (simp [cellsU] at hj; subst hj; simp) | 3, hj => (simp [cellsU] at hj; subst hj; simp) | 4, hj => (simp [cellsU] at hj; subst hj; simp) | (j + 5), hj => simp [cellsU] at hj
          case c2 => exact cellsU_one rfl
          case c3 => unfold maxLen; have := hpl.out; omega
          case c4 => have := hpl.out; omega
          case c5 => have := HB12.out.size; simp; omega
          intro v' w13 hown' hgrow _
          have HB13 := hide (((Below.plus HB12.out _).grown hgrow (by have := HB12.out.size; simp; omega) (fun g hg => (World.ownsRow.lt O12.out.1 g hg).1)))
          have O13 := hide (OwnP.snoc (u := ⟨(ka : Int), seen, kind, key, item⟩) O12.out.2 hR0.out hown')
          clear hown' hgrow
          go_wp2_with fail
          go_roundw
          case rel => exact ⟨k + 1, ps ++ [(⟨(ka : Int), seen, kind, key, item⟩, .slice (some ⟨g5, o5, none⟩) seen.length cap5)], by omega, by go_num, by rw [HST.out, if_pos (by simp), List.map_append, HM.out]; exact rfl, O13, HB13⟩
          case measure => simp [intOf]; omega
        · have hd : decide (x < y) = false := by simp [hxy]
          rw [hd] at HST
          rw [hd]
          clear hd hxy
          go_wp2_with fail
          go_roundw
          case rel => exact ⟨k + 1, ps, by omega, by go_num, by rw [HST.out, if_neg (by simp)]; exact HM, O12, HB12⟩
          case measure => simp [intOf]; omega
    · have hkl : l.take k = l := List.take_of_length_le (by omega)
      rw [hkl] at HM
      have hlt' : ¬ (k : Int) < (l.length : Int) := by omega
      have R10 := hide (R0.out.below HB10.out (Nat.le_refl _))
      have M10 := hide (O10.out.log (fun sv xs hr => hr.below HB10.out (Nat.le_refl _)))
      rw [HM.out] at M10
      clear C0 C10 L0 R0 HM hkl O10
      go_wp2_with fail
      refine (start_any (k := n) (by omega) _).mono ?_
      rintro e w11 ⟨vS, rfl, hS, hb⟩
      have HB11 := hide (below_step HB10.out hb)
      have R11 := hide (R10.out.below hb (Nat.le_refl _))
      have M11 := hide (M10.out.below hb (Nat.le_refl _))
      have S11 := hide hS
      clear HB10 hb R10 M10
      have HQB : Hid (w.heap.size + 1 ≤ w11.heap.size) := by have := HB11.out.size; have := HSZ.out; unfold Hid; omega
      go_wp2_with fail
      refine (play_state _ _ (z0 n) (mine c l) _ S11.out.st M11.out).mono ?_
      rintro e w12 ⟨vQ, rfl, hQ, hb⟩
      have HB12 := hide (below_step HB11.out hb)
      have R12 := hide (R11.out.below hb (Nat.le_refl _))
      have M12 := hide (M11.out.below hb (Nat.le_refl _))
      have S12 := hide (S11.out.below hb (Nat.le_refl _))
      have Q12 := hide hQ
      clear HB11 hb R11 M11 S11
      rw [HP.out, HA.out]
      rw [HX.out] at Q12
      have HS12 : Hid (W0.heap.size ≤ w12.heap.size) := HB12.out.size
      obtain ⟨x1, y1, x2, y2, x3, y3, hvq⟩ := Q12.out.formW
      subst hvq
      clear hQ
      have HB13 := hide (below_step HB12.out (Below.plus (Below.refl _ w12) (.cells #[.slice x1 X.clock.length y1, .slice x2 X.lives.length y2, .slice x3 X.tals.length y3] 35)))
      have R13 := hide (R12.out.below (Below.plus (Below.refl _ w12) (.cells #[.slice x1 X.clock.length y1, .slice x2 X.lives.length y2, .slice x3 X.tals.length y3] 35)) (Nat.le_refl _))
      have M13 := hide (M12.out.below (Below.plus (Below.refl _ w12) (.cells #[.slice x1 X.clock.length y1, .slice x2 X.lives.length y2, .slice x3 X.tals.length y3] 35)) (Nat.le_refl _))
      have S13 := hide (S12.out.below (Below.plus (Below.refl _ w12) (.cells #[.slice x1 X.clock.length y1, .slice x2 X.lives.length y2, .slice x3 X.tals.length y3] 35)) (Nat.le_refl _))
      have Q13 := hide (Q12.out.below (Below.plus (Below.refl _ w12) (.cells #[.slice x1 X.clock.length y1, .slice x2 X.lives.length y2, .slice x3 X.tals.length y3] 35)) (Nat.le_refl _))
      have Y13 := hide (Box.new w12 [.slice x1 X.clock.length y1, .slice x2 X.lives.length y2, .slice x3 X.tals.length y3] 35)
      clear HB12 R12 M12 S12 Q12
      have HB14 := hide (below_step HB13.out (Below.plus (Below.refl _ (w12.alloc (.cells #[.slice x1 X.clock.length y1, .slice x2 X.lives.length y2, .slice x3 X.tals.length y3] 35))) (.cells #[.int .i64 P, .int .i64 A] 29)))
      have R14 := hide (R13.out.below (Below.plus (Below.refl _ (w12.alloc (.cells #[.slice x1 X.clock.length y1, .slice x2 X.lives.length y2, .slice x3 X.tals.length y3] 35))) (.cells #[.int .i64 P, .int .i64 A] 29)) (Nat.le_refl _))
      have M14 := hide (M13.out.below (Below.plus (Below.refl _ (w12.alloc (.cells #[.slice x1 X.clock.length y1, .slice x2 X.lives.length y2, .slice x3 X.tals.length y3] 35))) (.cells #[.int .i64 P, .int .i64 A] 29)) (Nat.le_refl _))
      have S14 := hide (S13.out.below (Below.plus (Below.refl _ (w12.alloc (.cells #[.slice x1 X.clock.length y1, .slice x2 X.lives.length y2, .slice x3 X.tals.length y3] 35))) (.cells #[.int .i64 P, .int .i64 A] 29)) (Nat.le_refl _))
      have Q14 := hide (Q13.out.below (Below.plus (Below.refl _ (w12.alloc (.cells #[.slice x1 X.clock.length y1, .slice x2 X.lives.length y2, .slice x3 X.tals.length y3] 35))) (.cells #[.int .i64 P, .int .i64 A] 29)) (Nat.le_refl _))
      have Y14 := hide (Y13.out.below (Below.plus (Below.refl _ (w12.alloc (.cells #[.slice x1 X.clock.length y1, .slice x2 X.lives.length y2, .slice x3 X.tals.length y3] 35))) (.cells #[.int .i64 P, .int .i64 A] 29)) (Nat.le_refl _))
      have F14 := hide (Box.new (w12.alloc (.cells #[.slice x1 X.clock.length y1, .slice x2 X.lives.length y2, .slice x3 X.tals.length y3] 35)) [.int .i64 P, .int .i64 A] 29)
      clear HB13 R13 M13 S13 Q13 Y13
      simp only [World.size_alloc] at F14
      have cY0 := Y14.out.get 0 rfl
      have cY1 := Y14.out.get 1 rfl
      have cY2 := Y14.out.get 2 rfl
      have cF0 := F14.out.get 0 rfl
      have cF1 := F14.out.get 1 rfl
      have cR0 := R14.out.get 0 rfl
      have cR1 := R14.out.get 1 rfl
      have cR2 := R14.out.get 2 rfl
      have f0 := R14.out.free 0
      have f1 := R14.out.free 1
      have f2 := R14.out.free 2
      have hlt12 : Hid (w.heap.size < w12.heap.size) := by have := HS12.out; have := HSZ.out; unfold Hid; omega
      have n2 : ¬ (w12.heap.size = w.heap.size) := by have := hlt12.out; omega
      have n3 : ¬ (w.heap.size = w12.heap.size) := by have := hlt12.out; omega
      have n4 : ¬ (w12.heap.size + 1 = w.heap.size) := by have := hlt12.out; omega
      have n5 : ¬ (w.heap.size = w12.heap.size + 1) := by have := hlt12.out; omega
      have hPt : (P == 0) = t := by rw [← HT.out]; cases hq : decide (P = 0) <;> simp at hq <;> simp [hq]
      go_upto_region 9 with fail
      go_region
      go_wp2_with fail
      have hR := ((R14.out.set 0 (.slice x1 X.clock.length y1)).set 1 (.slice x2 X.lives.length y2)).set 2 (.slice x3 X.tals.length y3)
      have hQb := Q14.out.base (C := w.heap.size + 1) (Nat.le_add_right_of_le HQB.out)
      refine bodyPost_ret (results_cell_tmp rfl _ _ w.heap.size 35 _ (0, 0) _ rfl hR.drew Tryz.underlying35 rfl Tryz.sizeState) rfl ⟨_, rfl, ?_, ?_⟩
      · exact (((hQb.away (by omega) _ _).away (by omega) _ _).away (by omega) _ _)
      · exact ((((HB0.out.trans (HB14.out.mono HB0.out.size)).setCell (Nat.le_refl _) _).setCell (Nat.le_refl _) _).setCell (Nat.le_refl _) _).drew
end Go.Proofs.YtkhhifkihpfdhaaGreat
