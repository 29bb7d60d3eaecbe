/- NodeTwice, walked: a parcel that is taken again changes nothing. -/
import Derived.Test.YtlhdnpakafcbkaaGreatNdN
namespace Go.Proofs.YtlhdnpakafcbkaaGreat
open Go.RowKit

theorem row_cast {w : World} {v : Value} {xs ys : List Int} (h : Row w v xs) (e : xs = ys) : Row w v ys := e ▸ h
theorem NodeO.clk {w : World} {B : Nat} {d : NdS} {x c l t b u k : Value} (h : NodeO w B (.agg #[x, c, l, t, b, u, k]) d) : Row w c d.st.clock ∧ Row w b d.base ∧ IsSt w (.agg #[c, l, t]) d.st ∧ LogV w u d.log ∧ KnV w k d.known := by
  obtain ⟨cv, lv, tv, bv, uv, kv, he, hs, hb, hl, hk⟩ := h
  simp only [Value.agg.injEq, Array.mk.injEq, List.cons.injEq, and_true] at he
  obtain ⟨-, rfl, rfl, rfl, rfl, rfl, rfl⟩ := he
  obtain ⟨cv', lv', tv', he, hc, -, -⟩ := id hs
  simp only [Value.agg.injEq, Array.mk.injEq, List.cons.injEq, and_true] at he
  obtain ⟨rfl, -, -⟩ := he
  exact ⟨hc.row, hb.row, hs.st, hl.log, hk.kn⟩

set_option maxRecDepth 100000 in
set_option maxHeartbeats 4000000 in
theorem twice_law (v pv : Value) (d : NdS) (i : Int) (p : Pcl) (w0 : World) (h : IsNode w0 v d) (hp : IsPcl w0 pv p) :
    Calls Tryz.prog 6 #[v, .int .i64 i, pv] w0 fun e w' => e = .returned (.bool true) ∧ Below w0.heap.size w0 w' := by
  have hin := h
  have hpin := hp
  obtain ⟨da1, dc1, da2, dc2, da3, dc3, da4, dc4, da5, dc5, da6, dc6, rfl, -, -, -, -, -⟩ := h.form
  obtain ⟨pa1, pc1, pa2, pc2, pa3, pc3, pa4, pc4, pa5, pc5, rfl, -, -, -, -⟩ := hp.form
  have hb := Below.plus (Below.plus (Below.refl w0.heap.size w0) (.cells #[.int .i64 d.self, .slice da1 d.st.clock.length dc1, .slice da2 d.st.lives.length dc2, .slice da3 d.st.tals.length dc3, .slice da4 d.base.length dc4, .slice da5 d.log.length dc5, .slice da6 d.known.length dc6] 31)) (.cells #[.bool p.whole, .slice pa1 p.st.clock.length pc1, .slice pa2 p.st.lives.length pc2, .slice pa3 p.st.tals.length pc3, .slice pa4 p.ups.length pc4, .slice pa5 p.clock.length pc5] 35)
  have G0 := hide ((Box.new w0 [.int .i64 d.self, .slice da1 d.st.clock.length dc1, .slice da2 d.st.lives.length dc2, .slice da3 d.st.tals.length dc3, .slice da4 d.base.length dc4, .slice da5 d.log.length dc5, .slice da6 d.known.length dc6] 31).plus (.cells #[.bool p.whole, .slice pa1 p.st.clock.length pc1, .slice pa2 p.st.lives.length pc2, .slice pa3 p.st.tals.length pc3, .slice pa4 p.ups.length pc4, .slice pa5 p.clock.length pc5] 35))
  have V0 := hide (Box.new (w0.alloc (.cells #[.int .i64 d.self, .slice da1 d.st.clock.length dc1, .slice da2 d.st.lives.length dc2, .slice da3 d.st.tals.length dc3, .slice da4 d.base.length dc4, .slice da5 d.log.length dc5, .slice da6 d.known.length dc6] 31)) [.bool p.whole, .slice pa1 p.st.clock.length pc1, .slice pa2 p.st.lives.length pc2, .slice pa3 p.st.tals.length pc3, .slice pa4 p.ups.length pc4, .slice pa5 p.clock.length pc5] 35)
  simp only [World.size_alloc] at V0
  have D0 := hide (hin.below hb (Nat.le_refl _))
  have P0 := hide (hpin.below hb (Nat.le_refl _))
  have HB0 := hide hb
  clear h hp hin hpin hb
  obtain ⟨E, HE⟩ : ∃ E, Hid (takeE d i p = E) := ⟨_, rfl⟩
  obtain ⟨X, HX⟩ : ∃ X, Hid (takeX d i p = X) := ⟨_, rfl⟩
  by_cases hE : E = 0
  · subst hE
    have T := took_twice (take_zero.1 HE.out)
    rw [HX.out] at T
    obtain ⟨T1, T2, T3⟩ := T
    obtain ⟨Y, HY⟩ : ∃ Y, Hid (takeX X i p = Y) := ⟨_, rfl⟩
    rw [HY.out] at T2 T3
    have HT1 := hide T1
    have HT2 := hide T2
    have HT3 := hide T3
    clear T1 T2 T3
    cases hw : p.whole
    · rw [hw] at G0 V0 D0 P0 HB0
      have HW := hide hw
      clear hw
      have hYX := (HT3.out HW.out).symm
      subst hYX
      go_enter Tryz.func6, Tryz.ntmps6
      go_wp2_with fail
      refine (alive6 _).mono ?_
      rintro e w1 ⟨rfl, hb⟩
      have HB1 := hide (below_step HB0.out hb)
      have G1 := hide (G0.out.below hb (Nat.le_refl _))
      have V1 := hide (V0.out.below hb (Nat.le_refl _))
      have D1 := hide (D0.out.below hb (Nat.le_refl _))
      have P1 := hide (P0.out.below hb (Nat.le_refl _))
      clear HB0 hb G0 V0 D0 P0
      have cG0 := G1.out.get 0 rfl
      have cG1 := G1.out.get 1 rfl
      have cG2 := G1.out.get 2 rfl
      have cG3 := G1.out.get 3 rfl
      have cG4 := G1.out.get 4 rfl
      have cG5 := G1.out.get 5 rfl
      have cG6 := G1.out.get 6 rfl
      have cV0 := V1.out.get 0 rfl
      have cV1 := V1.out.get 1 rfl
      have cV2 := V1.out.get 2 rfl
      have cV3 := V1.out.get 3 rfl
      have cV4 := V1.out.get 4 rfl
      have cV5 := V1.out.get 5 rfl
      go_wp2_with fail
      refine (take_node _ _ d i p _ D1.out P1.out).mono ?_
      rintro e w2 ⟨vX, rfl, hX, hb⟩
      have HB2 := hide (below_step HB1.out hb)
      have G2 := hide (G1.out.below hb (Nat.le_refl _))
      have V2 := hide (V1.out.below hb (Nat.le_refl _))
      have D2 := hide (D1.out.below hb (Nat.le_refl _))
      have P2 := hide (P1.out.below hb (Nat.le_refl _))
      have X2 := hide hX
      clear HB1 hb G1 V1 D1 P1
      rw [HE.out]
      rw [HX.out] at X2
      clear cG0 cG1 cG2 cG3 cG4 cG5 cG6
      clear cV0 cV1 cV2 cV3 cV4 cV5
      obtain ⟨xa1, xc1, xa2, xc2, xa3, xc3, xa4, xc4, xa5, xc5, xa6, xc6, hvx⟩ := X2.out.form
      subst hvx
      clear hX
      have HB3 := hide (below_step HB2.out (Below.plus (Below.refl _ w2) (.cells #[.int .i64 X.self, .slice xa1 X.st.clock.length xc1, .slice xa2 X.st.lives.length xc2, .slice xa3 X.st.tals.length xc3, .slice xa4 X.base.length xc4, .slice xa5 X.log.length xc5, .slice xa6 X.known.length xc6] 31)))
      have G3 := hide (G2.out.below (Below.plus (Below.refl _ w2) (.cells #[.int .i64 X.self, .slice xa1 X.st.clock.length xc1, .slice xa2 X.st.lives.length xc2, .slice xa3 X.st.tals.length xc3, .slice xa4 X.base.length xc4, .slice xa5 X.log.length xc5, .slice xa6 X.known.length xc6] 31)) (Nat.le_refl _))
      have V3 := hide (V2.out.below (Below.plus (Below.refl _ w2) (.cells #[.int .i64 X.self, .slice xa1 X.st.clock.length xc1, .slice xa2 X.st.lives.length xc2, .slice xa3 X.st.tals.length xc3, .slice xa4 X.base.length xc4, .slice xa5 X.log.length xc5, .slice xa6 X.known.length xc6] 31)) (Nat.le_refl _))
      have D3 := hide (D2.out.below (Below.plus (Below.refl _ w2) (.cells #[.int .i64 X.self, .slice xa1 X.st.clock.length xc1, .slice xa2 X.st.lives.length xc2, .slice xa3 X.st.tals.length xc3, .slice xa4 X.base.length xc4, .slice xa5 X.log.length xc5, .slice xa6 X.known.length xc6] 31)) (Nat.le_refl _))
      have P3 := hide (P2.out.below (Below.plus (Below.refl _ w2) (.cells #[.int .i64 X.self, .slice xa1 X.st.clock.length xc1, .slice xa2 X.st.lives.length xc2, .slice xa3 X.st.tals.length xc3, .slice xa4 X.base.length xc4, .slice xa5 X.log.length xc5, .slice xa6 X.known.length xc6] 31)) (Nat.le_refl _))
      have X3 := hide (X2.out.below (Below.plus (Below.refl _ w2) (.cells #[.int .i64 X.self, .slice xa1 X.st.clock.length xc1, .slice xa2 X.st.lives.length xc2, .slice xa3 X.st.tals.length xc3, .slice xa4 X.base.length xc4, .slice xa5 X.log.length xc5, .slice xa6 X.known.length xc6] 31)) (Nat.le_refl _))
      have Q3 := hide (Box.new w2 [.int .i64 X.self, .slice xa1 X.st.clock.length xc1, .slice xa2 X.st.lives.length xc2, .slice xa3 X.st.tals.length xc3, .slice xa4 X.base.length xc4, .slice xa5 X.log.length xc5, .slice xa6 X.known.length xc6] 31)
      clear HB2 G2 V2 D2 P2 X2
      have cQ0 := Q3.out.get 0 rfl
      have cQ1 := Q3.out.get 1 rfl
      have cQ2 := Q3.out.get 2 rfl
      have cQ3 := Q3.out.get 3 rfl
      have cQ4 := Q3.out.get 4 rfl
      have cQ5 := Q3.out.get 5 rfl
      have cQ6 := Q3.out.get 6 rfl
      have cV0 := V3.out.get 0 rfl
      have cV1 := V3.out.get 1 rfl
      have cV2 := V3.out.get 2 rfl
      have cV3 := V3.out.get 3 rfl
      have cV4 := V3.out.get 4 rfl
      have cV5 := V3.out.get 5 rfl
      go_wp2_with fail
      refine (take_node _ _ X i p _ X3.out.node P3.out).mono ?_
      rintro e w4 ⟨vY, rfl, hY, hb⟩
      have HB4 := hide (below_step HB3.out hb)
      have G4 := hide (G3.out.below hb (Nat.le_refl _))
      have V4 := hide (V3.out.below hb (Nat.le_refl _))
      have D4 := hide (D3.out.below hb (Nat.le_refl _))
      have P4 := hide (P3.out.below hb (Nat.le_refl _))
      have X4 := hide (X3.out.below hb (Nat.le_refl _))
      have Q4 := hide (Q3.out.below hb (Nat.le_refl _))
      have Y4 := hide hY
      clear HB3 hb G3 V3 D3 P3 X3 Q3
      rw [HT1.out]
      rw [HY.out] at Y4
      clear cQ0 cQ1 cQ2 cQ3 cQ4 cQ5 cQ6
      clear cV0 cV1 cV2 cV3 cV4 cV5
      obtain ⟨ya1, yc1, ya2, yc2, ya3, yc3, ya4, yc4, ya5, yc5, ya6, yc6, hvy⟩ := Y4.out.form
      subst hvy
      clear hY
      have HB5 := hide (below_step HB4.out (Below.plus (Below.refl _ w4) (.cells #[.int .i64 X.self, .slice ya1 X.st.clock.length yc1, .slice ya2 X.st.lives.length yc2, .slice ya3 X.st.tals.length yc3, .slice ya4 X.base.length yc4, .slice ya5 X.log.length yc5, .slice ya6 X.known.length yc6] 31)))
      have G5 := hide (G4.out.below (Below.plus (Below.refl _ w4) (.cells #[.int .i64 X.self, .slice ya1 X.st.clock.length yc1, .slice ya2 X.st.lives.length yc2, .slice ya3 X.st.tals.length yc3, .slice ya4 X.base.length yc4, .slice ya5 X.log.length yc5, .slice ya6 X.known.length yc6] 31)) (Nat.le_refl _))
      have V5 := hide (V4.out.below (Below.plus (Below.refl _ w4) (.cells #[.int .i64 X.self, .slice ya1 X.st.clock.length yc1, .slice ya2 X.st.lives.length yc2, .slice ya3 X.st.tals.length yc3, .slice ya4 X.base.length yc4, .slice ya5 X.log.length yc5, .slice ya6 X.known.length yc6] 31)) (Nat.le_refl _))
      have D5 := hide (D4.out.below (Below.plus (Below.refl _ w4) (.cells #[.int .i64 X.self, .slice ya1 X.st.clock.length yc1, .slice ya2 X.st.lives.length yc2, .slice ya3 X.st.tals.length yc3, .slice ya4 X.base.length yc4, .slice ya5 X.log.length yc5, .slice ya6 X.known.length yc6] 31)) (Nat.le_refl _))
      have P5 := hide (P4.out.below (Below.plus (Below.refl _ w4) (.cells #[.int .i64 X.self, .slice ya1 X.st.clock.length yc1, .slice ya2 X.st.lives.length yc2, .slice ya3 X.st.tals.length yc3, .slice ya4 X.base.length yc4, .slice ya5 X.log.length yc5, .slice ya6 X.known.length yc6] 31)) (Nat.le_refl _))
      have X5 := hide (X4.out.below (Below.plus (Below.refl _ w4) (.cells #[.int .i64 X.self, .slice ya1 X.st.clock.length yc1, .slice ya2 X.st.lives.length yc2, .slice ya3 X.st.tals.length yc3, .slice ya4 X.base.length yc4, .slice ya5 X.log.length yc5, .slice ya6 X.known.length yc6] 31)) (Nat.le_refl _))
      have Q5 := hide (Q4.out.below (Below.plus (Below.refl _ w4) (.cells #[.int .i64 X.self, .slice ya1 X.st.clock.length yc1, .slice ya2 X.st.lives.length yc2, .slice ya3 X.st.tals.length yc3, .slice ya4 X.base.length yc4, .slice ya5 X.log.length yc5, .slice ya6 X.known.length yc6] 31)) (Nat.le_refl _))
      have Y5 := hide (Y4.out.below (Below.plus (Below.refl _ w4) (.cells #[.int .i64 X.self, .slice ya1 X.st.clock.length yc1, .slice ya2 X.st.lives.length yc2, .slice ya3 X.st.tals.length yc3, .slice ya4 X.base.length yc4, .slice ya5 X.log.length yc5, .slice ya6 X.known.length yc6] 31)) (Nat.le_refl _))
      have R5 := hide (Box.new w4 [.int .i64 X.self, .slice ya1 X.st.clock.length yc1, .slice ya2 X.st.lives.length yc2, .slice ya3 X.st.tals.length yc3, .slice ya4 X.base.length yc4, .slice ya5 X.log.length yc5, .slice ya6 X.known.length yc6] 31)
      clear HB4 G4 V4 D4 P4 X4 Q4 Y4
      have cQ0 := Q5.out.get 0 rfl
      have cQ1 := Q5.out.get 1 rfl
      have cQ2 := Q5.out.get 2 rfl
      have cQ3 := Q5.out.get 3 rfl
      have cQ4 := Q5.out.get 4 rfl
      have cQ5 := Q5.out.get 5 rfl
      have cQ6 := Q5.out.get 6 rfl
      have cR0 := R5.out.get 0 rfl
      have cR1 := R5.out.get 1 rfl
      have cR2 := R5.out.get 2 rfl
      have cR3 := R5.out.get 3 rfl
      have cR4 := R5.out.get 4 rfl
      have cR5 := R5.out.get 5 rfl
      have cR6 := R5.out.get 6 rfl
      go_wp2_with fail
      refine (sameNode_yes _ _ X _ X5.out.node Y5.out.node).mono ?_
      rintro e w6 ⟨rfl, hb⟩
      have HB6 := hide (below_step HB5.out hb)
      have G6 := hide (G5.out.below hb (Nat.le_refl _))
      have V6 := hide (V5.out.below hb (Nat.le_refl _))
      have D6 := hide (D5.out.below hb (Nat.le_refl _))
      have P6 := hide (P5.out.below hb (Nat.le_refl _))
      have X6 := hide (X5.out.below hb (Nat.le_refl _))
      have Q6 := hide (Q5.out.below hb (Nat.le_refl _))
      have Y6 := hide (Y5.out.below hb (Nat.le_refl _))
      have R6 := hide (R5.out.below hb (Nat.le_refl _))
      clear HB5 hb G5 V5 D5 P5 X5 Q5 Y5 R5
      go_wp2_with fail
      go_ret
      exact ⟨rfl, HB6.out⟩
    · rw [hw] at G0 V0 D0 P0 HB0
      have HW := hide hw
      clear hw
      go_enter Tryz.func6, Tryz.ntmps6
      go_wp2_with fail
      refine (alive6 _).mono ?_
      rintro e w1 ⟨rfl, hb⟩
      have HB1 := hide (below_step HB0.out hb)
      have G1 := hide (G0.out.below hb (Nat.le_refl _))
      have V1 := hide (V0.out.below hb (Nat.le_refl _))
      have D1 := hide (D0.out.below hb (Nat.le_refl _))
      have P1 := hide (P0.out.below hb (Nat.le_refl _))
      clear HB0 hb G0 V0 D0 P0
      have cG0 := G1.out.get 0 rfl
      have cG1 := G1.out.get 1 rfl
      have cG2 := G1.out.get 2 rfl
      have cG3 := G1.out.get 3 rfl
      have cG4 := G1.out.get 4 rfl
      have cG5 := G1.out.get 5 rfl
      have cG6 := G1.out.get 6 rfl
      have cV0 := V1.out.get 0 rfl
      have cV1 := V1.out.get 1 rfl
      have cV2 := V1.out.get 2 rfl
      have cV3 := V1.out.get 3 rfl
      have cV4 := V1.out.get 4 rfl
      have cV5 := V1.out.get 5 rfl
      go_wp2_with fail
      refine (take_node _ _ d i p _ D1.out P1.out).mono ?_
      rintro e w2 ⟨vX, rfl, hX, hb⟩
      have HB2 := hide (below_step HB1.out hb)
      have G2 := hide (G1.out.below hb (Nat.le_refl _))
      have V2 := hide (V1.out.below hb (Nat.le_refl _))
      have D2 := hide (D1.out.below hb (Nat.le_refl _))
      have P2 := hide (P1.out.below hb (Nat.le_refl _))
      have X2 := hide hX
      clear HB1 hb G1 V1 D1 P1
      rw [HE.out]
      rw [HX.out] at X2
      clear cG0 cG1 cG2 cG3 cG4 cG5 cG6
      clear cV0 cV1 cV2 cV3 cV4 cV5
      obtain ⟨xa1, xc1, xa2, xc2, xa3, xc3, xa4, xc4, xa5, xc5, xa6, xc6, hvx⟩ := X2.out.form
      subst hvx
      clear hX
      have HB3 := hide (below_step HB2.out (Below.plus (Below.refl _ w2) (.cells #[.int .i64 X.self, .slice xa1 X.st.clock.length xc1, .slice xa2 X.st.lives.length xc2, .slice xa3 X.st.tals.length xc3, .slice xa4 X.base.length xc4, .slice xa5 X.log.length xc5, .slice xa6 X.known.length xc6] 31)))
      have G3 := hide (G2.out.below (Below.plus (Below.refl _ w2) (.cells #[.int .i64 X.self, .slice xa1 X.st.clock.length xc1, .slice xa2 X.st.lives.length xc2, .slice xa3 X.st.tals.length xc3, .slice xa4 X.base.length xc4, .slice xa5 X.log.length xc5, .slice xa6 X.known.length xc6] 31)) (Nat.le_refl _))
      have V3 := hide (V2.out.below (Below.plus (Below.refl _ w2) (.cells #[.int .i64 X.self, .slice xa1 X.st.clock.length xc1, .slice xa2 X.st.lives.length xc2, .slice xa3 X.st.tals.length xc3, .slice xa4 X.base.length xc4, .slice xa5 X.log.length xc5, .slice xa6 X.known.length xc6] 31)) (Nat.le_refl _))
      have D3 := hide (D2.out.below (Below.plus (Below.refl _ w2) (.cells #[.int .i64 X.self, .slice xa1 X.st.clock.length xc1, .slice xa2 X.st.lives.length xc2, .slice xa3 X.st.tals.length xc3, .slice xa4 X.base.length xc4, .slice xa5 X.log.length xc5, .slice xa6 X.known.length xc6] 31)) (Nat.le_refl _))
      have P3 := hide (P2.out.below (Below.plus (Below.refl _ w2) (.cells #[.int .i64 X.self, .slice xa1 X.st.clock.length xc1, .slice xa2 X.st.lives.length xc2, .slice xa3 X.st.tals.length xc3, .slice xa4 X.base.length xc4, .slice xa5 X.log.length xc5, .slice xa6 X.known.length xc6] 31)) (Nat.le_refl _))
      have X3 := hide (X2.out.below (Below.plus (Below.refl _ w2) (.cells #[.int .i64 X.self, .slice xa1 X.st.clock.length xc1, .slice xa2 X.st.lives.length xc2, .slice xa3 X.st.tals.length xc3, .slice xa4 X.base.length xc4, .slice xa5 X.log.length xc5, .slice xa6 X.known.length xc6] 31)) (Nat.le_refl _))
      have Q3 := hide (Box.new w2 [.int .i64 X.self, .slice xa1 X.st.clock.length xc1, .slice xa2 X.st.lives.length xc2, .slice xa3 X.st.tals.length xc3, .slice xa4 X.base.length xc4, .slice xa5 X.log.length xc5, .slice xa6 X.known.length xc6] 31)
      clear HB2 G2 V2 D2 P2 X2
      have cQ0 := Q3.out.get 0 rfl
      have cQ1 := Q3.out.get 1 rfl
      have cQ2 := Q3.out.get 2 rfl
      have cQ3 := Q3.out.get 3 rfl
      have cQ4 := Q3.out.get 4 rfl
      have cQ5 := Q3.out.get 5 rfl
      have cQ6 := Q3.out.get 6 rfl
      have cV0 := V3.out.get 0 rfl
      have cV1 := V3.out.get 1 rfl
      have cV2 := V3.out.get 2 rfl
      have cV3 := V3.out.get 3 rfl
      have cV4 := V3.out.get 4 rfl
      have cV5 := V3.out.get 5 rfl
      go_wp2_with fail
      refine (take_node _ _ X i p _ X3.out.node P3.out).mono ?_
      rintro e w4 ⟨vY, rfl, hY, hb⟩
      have HB4 := hide (below_step HB3.out hb)
      have G4 := hide (G3.out.below hb (Nat.le_refl _))
      have V4 := hide (V3.out.below hb (Nat.le_refl _))
      have D4 := hide (D3.out.below hb (Nat.le_refl _))
      have P4 := hide (P3.out.below hb (Nat.le_refl _))
      have X4 := hide (X3.out.below hb (Nat.le_refl _))
      have Q4 := hide (Q3.out.below hb (Nat.le_refl _))
      have Y4 := hide hY
      clear HB3 hb G3 V3 D3 P3 X3 Q3
      rw [HT1.out]
      rw [HY.out] at Y4
      clear cQ0 cQ1 cQ2 cQ3 cQ4 cQ5 cQ6
      clear cV0 cV1 cV2 cV3 cV4 cV5
      obtain ⟨ya1, yc1, ya2, yc2, ya3, yc3, ya4, yc4, ya5, yc5, ya6, yc6, hvy⟩ := Y4.out.form
      subst hvy
      clear hY
      have HB5 := hide (below_step HB4.out (Below.plus (Below.refl _ w4) (.cells #[.int .i64 Y.self, .slice ya1 Y.st.clock.length yc1, .slice ya2 Y.st.lives.length yc2, .slice ya3 Y.st.tals.length yc3, .slice ya4 Y.base.length yc4, .slice ya5 Y.log.length yc5, .slice ya6 Y.known.length yc6] 31)))
      have G5 := hide (G4.out.below (Below.plus (Below.refl _ w4) (.cells #[.int .i64 Y.self, .slice ya1 Y.st.clock.length yc1, .slice ya2 Y.st.lives.length yc2, .slice ya3 Y.st.tals.length yc3, .slice ya4 Y.base.length yc4, .slice ya5 Y.log.length yc5, .slice ya6 Y.known.length yc6] 31)) (Nat.le_refl _))
      have V5 := hide (V4.out.below (Below.plus (Below.refl _ w4) (.cells #[.int .i64 Y.self, .slice ya1 Y.st.clock.length yc1, .slice ya2 Y.st.lives.length yc2, .slice ya3 Y.st.tals.length yc3, .slice ya4 Y.base.length yc4, .slice ya5 Y.log.length yc5, .slice ya6 Y.known.length yc6] 31)) (Nat.le_refl _))
      have D5 := hide (D4.out.below (Below.plus (Below.refl _ w4) (.cells #[.int .i64 Y.self, .slice ya1 Y.st.clock.length yc1, .slice ya2 Y.st.lives.length yc2, .slice ya3 Y.st.tals.length yc3, .slice ya4 Y.base.length yc4, .slice ya5 Y.log.length yc5, .slice ya6 Y.known.length yc6] 31)) (Nat.le_refl _))
      have P5 := hide (P4.out.below (Below.plus (Below.refl _ w4) (.cells #[.int .i64 Y.self, .slice ya1 Y.st.clock.length yc1, .slice ya2 Y.st.lives.length yc2, .slice ya3 Y.st.tals.length yc3, .slice ya4 Y.base.length yc4, .slice ya5 Y.log.length yc5, .slice ya6 Y.known.length yc6] 31)) (Nat.le_refl _))
      have X5 := hide (X4.out.below (Below.plus (Below.refl _ w4) (.cells #[.int .i64 Y.self, .slice ya1 Y.st.clock.length yc1, .slice ya2 Y.st.lives.length yc2, .slice ya3 Y.st.tals.length yc3, .slice ya4 Y.base.length yc4, .slice ya5 Y.log.length yc5, .slice ya6 Y.known.length yc6] 31)) (Nat.le_refl _))
      have Q5 := hide (Q4.out.below (Below.plus (Below.refl _ w4) (.cells #[.int .i64 Y.self, .slice ya1 Y.st.clock.length yc1, .slice ya2 Y.st.lives.length yc2, .slice ya3 Y.st.tals.length yc3, .slice ya4 Y.base.length yc4, .slice ya5 Y.log.length yc5, .slice ya6 Y.known.length yc6] 31)) (Nat.le_refl _))
      have Y5 := hide (Y4.out.below (Below.plus (Below.refl _ w4) (.cells #[.int .i64 Y.self, .slice ya1 Y.st.clock.length yc1, .slice ya2 Y.st.lives.length yc2, .slice ya3 Y.st.tals.length yc3, .slice ya4 Y.base.length yc4, .slice ya5 Y.log.length yc5, .slice ya6 Y.known.length yc6] 31)) (Nat.le_refl _))
      have R5 := hide (Box.new w4 [.int .i64 Y.self, .slice ya1 Y.st.clock.length yc1, .slice ya2 Y.st.lives.length yc2, .slice ya3 Y.st.tals.length yc3, .slice ya4 Y.base.length yc4, .slice ya5 Y.log.length yc5, .slice ya6 Y.known.length yc6] 31)
      clear HB4 G4 V4 D4 P4 X4 Q4 Y4
      have cQ0 := Q5.out.get 0 rfl
      have cQ1 := Q5.out.get 1 rfl
      have cQ2 := Q5.out.get 2 rfl
      have cQ3 := Q5.out.get 3 rfl
      have cQ4 := Q5.out.get 4 rfl
      have cQ5 := Q5.out.get 5 rfl
      have cQ6 := Q5.out.get 6 rfl
      have cR0 := R5.out.get 0 rfl
      have cR1 := R5.out.get 1 rfl
      have cR2 := R5.out.get 2 rfl
      have cR3 := R5.out.get 3 rfl
      have cR4 := R5.out.get 4 rfl
      have cR5 := R5.out.get 5 rfl
      have cR6 := R5.out.get 6 rfl
      have HRX := hide X5.out.clk.1
      have HRY := hide (row_cast Y5.out.clk.1 HT2.out)
      go_wp2_with fail
      refine (same_yesW _ _ X.st.clock _ HRX.out HRY.out).mono ?_
      rintro e w6 ⟨rfl, hb⟩
      have HB6 := hide (below_step HB5.out hb)
      have G6 := hide (G5.out.below hb (Nat.le_refl _))
      have V6 := hide (V5.out.below hb (Nat.le_refl _))
      have D6 := hide (D5.out.below hb (Nat.le_refl _))
      have P6 := hide (P5.out.below hb (Nat.le_refl _))
      have X6 := hide (X5.out.below hb (Nat.le_refl _))
      have Q6 := hide (Q5.out.below hb (Nat.le_refl _))
      have Y6 := hide (Y5.out.below hb (Nat.le_refl _))
      have R6 := hide (R5.out.below hb (Nat.le_refl _))
      clear HB5 hb G5 V5 D5 P5 X5 Q5 Y5 R5
      go_wp2_with fail
      go_ret
      exact ⟨rfl, HB6.out⟩
  · have hE' : (E != 0) = true := by simp [hE]
    have hX : X = noNode := by rw [← HX.out]; unfold takeX; rw [if_neg (by rw [HE.out]; exact hE)]
    subst hX
    clear hE
    go_enter Tryz.func6, Tryz.ntmps6
    go_wp2_with fail
    refine (alive6 _).mono ?_
    rintro e w1 ⟨rfl, hb⟩
    have HB1 := hide (below_step HB0.out hb)
    have G1 := hide (G0.out.below hb (Nat.le_refl _))
    have V1 := hide (V0.out.below hb (Nat.le_refl _))
    have D1 := hide (D0.out.below hb (Nat.le_refl _))
    have P1 := hide (P0.out.below hb (Nat.le_refl _))
    clear HB0 hb G0 V0 D0 P0
    have cG0 := G1.out.get 0 rfl
    have cG1 := G1.out.get 1 rfl
    have cG2 := G1.out.get 2 rfl
    have cG3 := G1.out.get 3 rfl
    have cG4 := G1.out.get 4 rfl
    have cG5 := G1.out.get 5 rfl
    have cG6 := G1.out.get 6 rfl
    have cV0 := V1.out.get 0 rfl
    have cV1 := V1.out.get 1 rfl
    have cV2 := V1.out.get 2 rfl
    have cV3 := V1.out.get 3 rfl
    have cV4 := V1.out.get 4 rfl
    have cV5 := V1.out.get 5 rfl
    go_wp2_with fail
    refine (take_node _ _ d i p _ D1.out P1.out).mono ?_
    rintro e w2 ⟨vX, rfl, hX, hb⟩
    have HB2 := hide (below_step HB1.out hb)
    have G2 := hide (G1.out.below hb (Nat.le_refl _))
    have V2 := hide (V1.out.below hb (Nat.le_refl _))
    have D2 := hide (D1.out.below hb (Nat.le_refl _))
    have P2 := hide (P1.out.below hb (Nat.le_refl _))
    have X2 := hide hX
    clear HB1 hb G1 V1 D1 P1
    rw [HE.out]
    rw [HX.out] at X2
    clear cG0 cG1 cG2 cG3 cG4 cG5 cG6
    clear cV0 cV1 cV2 cV3 cV4 cV5
    obtain ⟨xa1, xc1, xa2, xc2, xa3, xc3, xa4, xc4, xa5, xc5, xa6, xc6, hvx⟩ := X2.out.form
    subst hvx
    clear hX
    have HB3 := hide (below_step HB2.out (Below.plus (Below.refl _ w2) (.cells #[.int .i64 noNode.self, .slice xa1 noNode.st.clock.length xc1, .slice xa2 noNode.st.lives.length xc2, .slice xa3 noNode.st.tals.length xc3, .slice xa4 noNode.base.length xc4, .slice xa5 noNode.log.length xc5, .slice xa6 noNode.known.length xc6] 31)))
    have G3 := hide (G2.out.below (Below.plus (Below.refl _ w2) (.cells #[.int .i64 noNode.self, .slice xa1 noNode.st.clock.length xc1, .slice xa2 noNode.st.lives.length xc2, .slice xa3 noNode.st.tals.length xc3, .slice xa4 noNode.base.length xc4, .slice xa5 noNode.log.length xc5, .slice xa6 noNode.known.length xc6] 31)) (Nat.le_refl _))
    have V3 := hide (V2.out.below (Below.plus (Below.refl _ w2) (.cells #[.int .i64 noNode.self, .slice xa1 noNode.st.clock.length xc1, .slice xa2 noNode.st.lives.length xc2, .slice xa3 noNode.st.tals.length xc3, .slice xa4 noNode.base.length xc4, .slice xa5 noNode.log.length xc5, .slice xa6 noNode.known.length xc6] 31)) (Nat.le_refl _))
    have D3 := hide (D2.out.below (Below.plus (Below.refl _ w2) (.cells #[.int .i64 noNode.self, .slice xa1 noNode.st.clock.length xc1, .slice xa2 noNode.st.lives.length xc2, .slice xa3 noNode.st.tals.length xc3, .slice xa4 noNode.base.length xc4, .slice xa5 noNode.log.length xc5, .slice xa6 noNode.known.length xc6] 31)) (Nat.le_refl _))
    have P3 := hide (P2.out.below (Below.plus (Below.refl _ w2) (.cells #[.int .i64 noNode.self, .slice xa1 noNode.st.clock.length xc1, .slice xa2 noNode.st.lives.length xc2, .slice xa3 noNode.st.tals.length xc3, .slice xa4 noNode.base.length xc4, .slice xa5 noNode.log.length xc5, .slice xa6 noNode.known.length xc6] 31)) (Nat.le_refl _))
    have X3 := hide (X2.out.below (Below.plus (Below.refl _ w2) (.cells #[.int .i64 noNode.self, .slice xa1 noNode.st.clock.length xc1, .slice xa2 noNode.st.lives.length xc2, .slice xa3 noNode.st.tals.length xc3, .slice xa4 noNode.base.length xc4, .slice xa5 noNode.log.length xc5, .slice xa6 noNode.known.length xc6] 31)) (Nat.le_refl _))
    have Q3 := hide (Box.new w2 [.int .i64 noNode.self, .slice xa1 noNode.st.clock.length xc1, .slice xa2 noNode.st.lives.length xc2, .slice xa3 noNode.st.tals.length xc3, .slice xa4 noNode.base.length xc4, .slice xa5 noNode.log.length xc5, .slice xa6 noNode.known.length xc6] 31)
    clear HB2 G2 V2 D2 P2 X2
    have cQ0 := Q3.out.get 0 rfl
    have cQ1 := Q3.out.get 1 rfl
    have cQ2 := Q3.out.get 2 rfl
    have cQ3 := Q3.out.get 3 rfl
    have cQ4 := Q3.out.get 4 rfl
    have cQ5 := Q3.out.get 5 rfl
    have cQ6 := Q3.out.get 6 rfl
    go_wp2_with fail
    refine (sameNode_yes _ _ noNode _ X3.out.node (NodeO.none _ 0).node).mono ?_
    rintro e w4 ⟨rfl, hb⟩
    have HB4 := hide (below_step HB3.out hb)
    have G4 := hide (G3.out.below hb (Nat.le_refl _))
    have V4 := hide (V3.out.below hb (Nat.le_refl _))
    have D4 := hide (D3.out.below hb (Nat.le_refl _))
    have P4 := hide (P3.out.below hb (Nat.le_refl _))
    have X4 := hide (X3.out.below hb (Nat.le_refl _))
    have Q4 := hide (Q3.out.below hb (Nat.le_refl _))
    clear HB3 hb G3 V3 D3 P3 X3 Q3
    go_wp2_with fail
    go_ret
    exact ⟨rfl, HB4.out⟩
end Go.Proofs.YtlhdnpakafcbkaaGreat
