/- JoinUnion, walked: put together is played together. -/
import Derived.Test.YtkhhifkihpfdhaaGreatJoE
namespace Go.Proofs.YtkhhifkihpfdhaaGreat
open Go.RowKit

section
variable {k : Nat} {a b : List Int} {l : List Upd}
theorem z0_ok (ha : wrongC a (k : Int) = 0) : OkS ((z0 k).clock.length : Int) (z0 k).clock (z0 k).lives (z0 k).tals := by
  have h := okS_zero ha
  rw [Int.toNat_natCast] at h
  unfold z0
  simp only [zeroC_length]
  exact h
/-- They follow each other where what they saw is in. -/
theorem of_closed (ha : wrongC a (k : Int) = 0) (hl : errL k (zeroC k) l = 0) (hn : l.length ≤ 300) : playE (z0 k) (mine a l) = 0 ↔ Closed a l := by
  have hf := of_fits (l := l) ha (by rw [Int.toNat_natCast]; exact hl)
  rw [Int.toNat_natCast] at hf
  rw [playE_iff, ← hf]
  have hz : ((z0 k).clock.length : Int) = k := by unfold z0; simp [zeroC_length]
  constructor
  · rintro ⟨-, -, h⟩
    rw [hz] at h
    exact h
  · intro h
    refine ⟨z0_ok ha, Nat.le_trans (List.length_filter_le _ _) hn, ?_⟩
    rw [hz]
    exact h
theorem of_state (h : playE (z0 k) (mine a l) = 0) : playX (z0 k) (mine a l) = ofS k l a := by
  rw [playX_ok h]
  unfold ofS z0
  rw [Int.toNat_natCast]
/-- Put together is played together. -/
theorem union_law (ha : wrongC a (k : Int) = 0) (hb : wrongC b (k : Int) = 0) (hl : errL k (zeroC k) l = 0) (hn : l.length ≤ 300) (pa : playE (z0 k) (mine a l) = 0) (pb : playE (z0 k) (mine b l) = 0) :
    playE (z0 k) (mine (joinC a b) l) = 0 ∧ joinE (playX (z0 k) (mine a l)) (playX (z0 k) (mine b l)) = 0 ∧ joinX (playX (z0 k) (mine a l)) (playX (z0 k) (mine b l)) = playX (z0 k) (mine (joinC a b) l) := by
  have ca := (of_closed ha hl hn).1 pa
  have cb := (of_closed hb hl hn).1 pb
  have hl' : errL k (zeroC (k : Int).toNat) l = 0 := by rw [Int.toNat_natCast]; exact hl
  obtain ⟨h1, h2⟩ := union_main ha hb hl' ca cb
  have pj := (of_closed (join_good ha hb) hl hn).2 (closed_join ca cb)
  rw [of_state pa, of_state pb, of_state pj]
  exact ⟨pj, h1, h2⟩
end
theorem joinC_len {k : Nat} {a b : List Int} (ha : a.length = k) (hb : b.length = k) : (joinC a b).length = k := by
  rw [joinC_length]
  unfold lenM
  split <;> omega

set_option maxRecDepth 100000 in
set_option maxHeartbeats 2000000 in
theorem union_walk (lv av bv : Value) (l : List Upd) (n : Int) (a b : List Int) (w0 : World) (hl : LogV w0 lv l) (ha : Row w0 av a) (hb : Row w0 bv b) :
    Calls Tryz.prog 3 #[lv, .int .i64 n, av, bv] w0 fun e w' => e = .returned (.bool true) ∧ Below w0.heap.size w0 w' := by
  obtain ⟨a4, cap4, rfl, -, -, -⟩ := id hl
  obtain ⟨a1, cap1, rfl, -, -, -⟩ := id ha
  obtain ⟨b1, dap1, rfl, -, -, -⟩ := id hb
  have L0 := hide hl
  have A0 := hide ha
  have B0 := hide hb
  have HB0 := hide (Below.refl w0.heap.size w0)
  clear hl ha hb
  obtain ⟨E1, HE1⟩ : ∃ E1, Hid (wrongC a n = E1) := ⟨_, rfl⟩
  obtain ⟨E2, HE2⟩ : ∃ E2, Hid (wrongC b n = E2) := ⟨_, rfl⟩
  by_cases h1 : E1 = 0
  · by_cases h2 : E2 = 0
    · subst h1 h2
      obtain ⟨g1, g2, g3, -⟩ := goodC_iff.1 HE1.out
      have g4 := (goodC_iff.1 HE2.out).2.2.1
      obtain ⟨k, rfl⟩ : ∃ k : Nat, n = (k : Int) := ⟨n.toNat, by omega⟩
      have hk6 : k ≤ 6 := by omega
      have HLA : Hid (a.length = k) := by unfold Hid; omega
      have HLB : Hid (b.length = k) := by unfold Hid; omega
      have hra : Hid (a.length * 8 ≤ 140737488351232) := by have := HLA.out; unfold Hid; omega
      have hrb : Hid (b.length * 8 ≤ 140737488351232) := by have := HLB.out; unfold Hid; omega
      have hmk := fun w : World => run_make_clock hk6 w
      have hoz := fun w : World => own_zero w w.heap.size hk6 (Nat.le_refl _)
      obtain ⟨cs, HCS⟩ : ∃ cs, Hid (madeCells #[.int .i64 0] k = cs) := ⟨_, rfl⟩
      rw [HCS.out] at hmk
      simp only [HCS.out] at hoz
      have HOZ := hide hoz
      clear hoz g1 g2 g3 g4
      obtain ⟨eC, HeC⟩ : ∃ eC, Hid (clockE (zeroC k) l k = eC) := ⟨_, rfl⟩
      obtain ⟨aC, HaC⟩ : ∃ aC, Hid (clockA (zeroC k) l k = aC) := ⟨_, rfl⟩
      by_cases h3 : eC = 0
      · subst h3
        obtain ⟨-, r2, r3⟩ := clockE_iff.1 HeC.out
        have HWU := hide (errL_each l r3)
        have HLN := hide r2
        have HER := hide r3
        clear r2 r3
        obtain ⟨pa, HPA⟩ : ∃ pa, Hid (decide (playE (z0 k) (mine a l) = 0) = pa) := ⟨_, rfl⟩
        obtain ⟨pb, HPB⟩ : ∃ pb, Hid (decide (playE (z0 k) (mine b l) = 0) = pb) := ⟨_, rfl⟩
        obtain ⟨pj, HPJ⟩ : ∃ pj, Hid (decide (playE (z0 k) (mine (joinC a b) l) = 0) = pj) := ⟨_, rfl⟩
        obtain ⟨XA, HXA⟩ : ∃ XA, Hid (playX (z0 k) (mine a l) = XA) := ⟨_, rfl⟩
        obtain ⟨XB, HXB⟩ : ∃ XB, Hid (playX (z0 k) (mine b l) = XB) := ⟨_, rfl⟩
        obtain ⟨XJ, HXJ⟩ : ∃ XJ, Hid (playX (z0 k) (mine (joinC a b) l) = XJ) := ⟨_, rfl⟩
        have HLJ : Hid ((joinC a b).length = k) := joinC_len HLA.out HLB.out
        go_enter Tryz.func3, Tryz.ntmps3
        go_wp2_with fail
        refine (alive5 _).mono ?_
        rintro e w1 ⟨rfl, hb⟩
        have HB1 := hide (below_step HB0.out hb)
        have L1 := hide (L0.out.below hb (Nat.le_refl _))
        have A1 := hide (A0.out.below hb (Nat.le_refl _))
        have B1 := hide (B0.out.below hb (Nat.le_refl _))
        clear HB0 hb L0 A0 B0
        go_wp2_with fail
        refine (wrong_clock _ a _ _ A1.out).mono ?_
        rintro e w' ⟨rfl, hw'⟩
        rw [hw']; clear hw' w'
        rw [HE1.out]
        go_wp2_with fail
        refine (wrong_clock _ b _ _ B1.out).mono ?_
        rintro e w' ⟨rfl, hw'⟩
        rw [hw']; clear hw' w'
        rw [HE2.out]
        have HB2 := hide (below_step HB1.out (Below.plus (Below.refl _ w1) (.cells cs 3)))
        have L2 := hide (L1.out.below (Below.plus (Below.refl _ w1) (.cells cs 3)) (Nat.le_refl _))
        have A2 := hide (A1.out.below (Below.plus (Below.refl _ w1) (.cells cs 3)) (Nat.le_refl _))
        have B2 := hide (B1.out.below (Below.plus (Below.refl _ w1) (.cells cs 3)) (Nat.le_refl _))
        have Z2 := hide ((HOZ.out w1).row)
        clear HB1 L1 A1 B1
        go_wp2_with fail
        refine (clock_log _ _ (zeroC k) l k _ Z2.out L2.out).mono ?_
        rintro e w3 ⟨vC, rfl, hC, hb⟩
        have HB3 := hide (below_step HB2.out hb)
        have L3 := hide (L2.out.below hb (Nat.le_refl _))
        have A3 := hide (A2.out.below hb (Nat.le_refl _))
        have B3 := hide (B2.out.below hb (Nat.le_refl _))
        have Z3 := hide (Z2.out.below hb (Nat.le_refl _))
        have C3 := hide hC
        clear HB2 hb L2 A2 B2 Z2
        rw [HeC.out, HaC.out]
        clear Z3
        clear C3
        obtain ⟨ac, cc, hvc, -⟩ := id hC
        subst hvc
        clear hC
        have HB4 := hide (below_step HB3.out (Below.plus (Below.refl _ w3) (.cells #[.int .i64 0, .int .i64 aC] 29)))
        have L4 := hide (L3.out.below (Below.plus (Below.refl _ w3) (.cells #[.int .i64 0, .int .i64 aC] 29)) (Nat.le_refl _))
        have A4 := hide (A3.out.below (Below.plus (Below.refl _ w3) (.cells #[.int .i64 0, .int .i64 aC] 29)) (Nat.le_refl _))
        have B4 := hide (B3.out.below (Below.plus (Below.refl _ w3) (.cells #[.int .i64 0, .int .i64 aC] 29)) (Nat.le_refl _))
        have F4 := hide (Box.new w3 [.int .i64 0, .int .i64 aC] 29)
        clear HB3 L3 A3 B3
        have cF0 := F4.out.get 0 rfl
        have cF1 := F4.out.get 1 rfl
        go_wp2_with fail
        refine (of_fn _ _ l a k _ L4.out A4.out hk6 HLA.out HWU.out HLN.out).mono ?_
        rintro e w5 ⟨vX, rfl, hX, hb⟩
        have HB5 := hide (below_step HB4.out hb)
        have L5 := hide (L4.out.below hb (Nat.le_refl _))
        have A5 := hide (A4.out.below hb (Nat.le_refl _))
        have B5 := hide (B4.out.below hb (Nat.le_refl _))
        have F5 := hide (F4.out.below hb (Nat.le_refl _))
        have X5 := hide hX
        clear HB4 hb L4 A4 B4 F4
        rw [HPA.out]
        rw [HXA.out] at X5
        clear cF0 cF1
        clear F5
        obtain ⟨x1, y1, x2, y2, x3, y3, hvx⟩ := X5.out.formW
        subst hvx
        clear hX
        have HB6 := hide (below_step HB5.out (Below.plus (Below.refl _ w5) (.cells #[.slice x1 XA.clock.length y1, .slice x2 XA.lives.length y2, .slice x3 XA.tals.length y3] 35)))
        have L6 := hide (L5.out.below (Below.plus (Below.refl _ w5) (.cells #[.slice x1 XA.clock.length y1, .slice x2 XA.lives.length y2, .slice x3 XA.tals.length y3] 35)) (Nat.le_refl _))
        have A6 := hide (A5.out.below (Below.plus (Below.refl _ w5) (.cells #[.slice x1 XA.clock.length y1, .slice x2 XA.lives.length y2, .slice x3 XA.tals.length y3] 35)) (Nat.le_refl _))
        have B6 := hide (B5.out.below (Below.plus (Below.refl _ w5) (.cells #[.slice x1 XA.clock.length y1, .slice x2 XA.lives.length y2, .slice x3 XA.tals.length y3] 35)) (Nat.le_refl _))
        have X6 := hide (X5.out.below (Below.plus (Below.refl _ w5) (.cells #[.slice x1 XA.clock.length y1, .slice x2 XA.lives.length y2, .slice x3 XA.tals.length y3] 35)) (Nat.le_refl _))
        have G6 := hide (Box.new w5 [.slice x1 XA.clock.length y1, .slice x2 XA.lives.length y2, .slice x3 XA.tals.length y3] 35)
        clear HB5 L5 A5 B5 X5
        go_wp2_with fail
        refine (of_fn _ _ l b k _ L6.out B6.out hk6 HLB.out HWU.out HLN.out).mono ?_
        rintro e w7 ⟨vY, rfl, hY, hb⟩
        have HB7 := hide (below_step HB6.out hb)
        have L7 := hide (L6.out.below hb (Nat.le_refl _))
        have A7 := hide (A6.out.below hb (Nat.le_refl _))
        have B7 := hide (B6.out.below hb (Nat.le_refl _))
        have X7 := hide (X6.out.below hb (Nat.le_refl _))
        have G7 := hide (G6.out.below hb (Nat.le_refl _))
        have Y7 := hide hY
        clear HB6 hb L6 A6 B6 X6 G6
        rw [HPB.out]
        rw [HXB.out] at Y7
        obtain ⟨x4, y4, x5, y5, x6, y6, hvy⟩ := Y7.out.formW
        subst hvy
        clear hY
        have HB8 := hide (below_step HB7.out (Below.plus (Below.refl _ w7) (.cells #[.slice x4 XB.clock.length y4, .slice x5 XB.lives.length y5, .slice x6 XB.tals.length y6] 35)))
        have L8 := hide (L7.out.below (Below.plus (Below.refl _ w7) (.cells #[.slice x4 XB.clock.length y4, .slice x5 XB.lives.length y5, .slice x6 XB.tals.length y6] 35)) (Nat.le_refl _))
        have A8 := hide (A7.out.below (Below.plus (Below.refl _ w7) (.cells #[.slice x4 XB.clock.length y4, .slice x5 XB.lives.length y5, .slice x6 XB.tals.length y6] 35)) (Nat.le_refl _))
        have B8 := hide (B7.out.below (Below.plus (Below.refl _ w7) (.cells #[.slice x4 XB.clock.length y4, .slice x5 XB.lives.length y5, .slice x6 XB.tals.length y6] 35)) (Nat.le_refl _))
        have X8 := hide (X7.out.below (Below.plus (Below.refl _ w7) (.cells #[.slice x4 XB.clock.length y4, .slice x5 XB.lives.length y5, .slice x6 XB.tals.length y6] 35)) (Nat.le_refl _))
        have G8 := hide (G7.out.below (Below.plus (Below.refl _ w7) (.cells #[.slice x4 XB.clock.length y4, .slice x5 XB.lives.length y5, .slice x6 XB.tals.length y6] 35)) (Nat.le_refl _))
        have Y8 := hide (Y7.out.below (Below.plus (Below.refl _ w7) (.cells #[.slice x4 XB.clock.length y4, .slice x5 XB.lives.length y5, .slice x6 XB.tals.length y6] 35)) (Nat.le_refl _))
        have K8 := hide (Box.new w7 [.slice x4 XB.clock.length y4, .slice x5 XB.lives.length y5, .slice x6 XB.tals.length y6] 35)
        clear HB7 L7 A7 B7 X7 G7 Y7
        go_wp2_with fail
        refine (join_clock _ _ a b _ A8.out B8.out hra.out hrb.out).mono ?_
        rintro e w9 ⟨vJ, rfl, ho, hb⟩
        have HB9 := hide (below_step HB8.out hb)
        have L9 := hide (L8.out.below hb (Nat.le_refl _))
        have A9 := hide (A8.out.below hb (Nat.le_refl _))
        have B9 := hide (B8.out.below hb (Nat.le_refl _))
        have X9 := hide (X8.out.below hb (Nat.le_refl _))
        have G9 := hide (G8.out.below hb (Nat.le_refl _))
        have Y9 := hide (Y8.out.below hb (Nat.le_refl _))
        have K9 := hide (K8.out.below hb (Nat.le_refl _))
        have J9 := hide ho.row
        clear HB8 hb L8 A8 B8 X8 G8 Y8 K8
        clear ho
        obtain ⟨aj, cj, hvj, -, -, -⟩ := id J9.out
        subst hvj
        go_wp2_with fail
        refine (of_fn _ _ l (joinC a b) k _ L9.out J9.out hk6 HLJ.out HWU.out HLN.out).mono ?_
        rintro e w10 ⟨vV, rfl, hV, hb⟩
        have HB10 := hide (below_step HB9.out hb)
        have L10 := hide (L9.out.below hb (Nat.le_refl _))
        have A10 := hide (A9.out.below hb (Nat.le_refl _))
        have B10 := hide (B9.out.below hb (Nat.le_refl _))
        have X10 := hide (X9.out.below hb (Nat.le_refl _))
        have G10 := hide (G9.out.below hb (Nat.le_refl _))
        have Y10 := hide (Y9.out.below hb (Nat.le_refl _))
        have K10 := hide (K9.out.below hb (Nat.le_refl _))
        have J10 := hide (J9.out.below hb (Nat.le_refl _))
        have V10 := hide hV
        clear HB9 hb L9 A9 B9 X9 G9 Y9 K9 J9
        rw [HPJ.out]
        rw [HXJ.out] at V10
        obtain ⟨x7, y7, x8, y8, x9, y9, hvv⟩ := V10.out.formW
        subst hvv
        clear hV
        have HB11 := hide (below_step HB10.out (Below.plus (Below.refl _ w10) (.cells #[.slice x7 XJ.clock.length y7, .slice x8 XJ.lives.length y8, .slice x9 XJ.tals.length y9] 35)))
        have L11 := hide (L10.out.below (Below.plus (Below.refl _ w10) (.cells #[.slice x7 XJ.clock.length y7, .slice x8 XJ.lives.length y8, .slice x9 XJ.tals.length y9] 35)) (Nat.le_refl _))
        have A11 := hide (A10.out.below (Below.plus (Below.refl _ w10) (.cells #[.slice x7 XJ.clock.length y7, .slice x8 XJ.lives.length y8, .slice x9 XJ.tals.length y9] 35)) (Nat.le_refl _))
        have B11 := hide (B10.out.below (Below.plus (Below.refl _ w10) (.cells #[.slice x7 XJ.clock.length y7, .slice x8 XJ.lives.length y8, .slice x9 XJ.tals.length y9] 35)) (Nat.le_refl _))
        have X11 := hide (X10.out.below (Below.plus (Below.refl _ w10) (.cells #[.slice x7 XJ.clock.length y7, .slice x8 XJ.lives.length y8, .slice x9 XJ.tals.length y9] 35)) (Nat.le_refl _))
        have G11 := hide (G10.out.below (Below.plus (Below.refl _ w10) (.cells #[.slice x7 XJ.clock.length y7, .slice x8 XJ.lives.length y8, .slice x9 XJ.tals.length y9] 35)) (Nat.le_refl _))
        have Y11 := hide (Y10.out.below (Below.plus (Below.refl _ w10) (.cells #[.slice x7 XJ.clock.length y7, .slice x8 XJ.lives.length y8, .slice x9 XJ.tals.length y9] 35)) (Nat.le_refl _))
        have K11 := hide (K10.out.below (Below.plus (Below.refl _ w10) (.cells #[.slice x7 XJ.clock.length y7, .slice x8 XJ.lives.length y8, .slice x9 XJ.tals.length y9] 35)) (Nat.le_refl _))
        have J11 := hide (J10.out.below (Below.plus (Below.refl _ w10) (.cells #[.slice x7 XJ.clock.length y7, .slice x8 XJ.lives.length y8, .slice x9 XJ.tals.length y9] 35)) (Nat.le_refl _))
        have V11 := hide (V10.out.below (Below.plus (Below.refl _ w10) (.cells #[.slice x7 XJ.clock.length y7, .slice x8 XJ.lives.length y8, .slice x9 XJ.tals.length y9] 35)) (Nat.le_refl _))
        have M11 := hide (Box.new w10 [.slice x7 XJ.clock.length y7, .slice x8 XJ.lives.length y8, .slice x9 XJ.tals.length y9] 35)
        clear HB10 L10 A10 B10 X10 G10 Y10 K10 J10 V10
        cases pa
        · go_wp2_with fail
          go_ret
          exact ⟨rfl, HB11.out⟩
        · cases pb
          · go_wp2_with fail
            go_ret
            exact ⟨rfl, HB11.out⟩
          · obtain ⟨m1, m2, m3⟩ := union_law HE1.out HE2.out HER.out HLN.out (of_decide_eq_true HPA.out) (of_decide_eq_true HPB.out)
            have hpj : pj = true := by rw [← HPJ.out]; exact decide_eq_true m1
            subst hpj
            rw [HXA.out, HXB.out] at m2 m3
            rw [HXJ.out] at m3
            have HM2 := hide m2
            have HM3 := hide m3
            clear m1 m2 m3
            have cG0 := G11.out.get 0 rfl
            have cG1 := G11.out.get 1 rfl
            have cG2 := G11.out.get 2 rfl
            have cK0 := K11.out.get 0 rfl
            have cK1 := K11.out.get 1 rfl
            have cK2 := K11.out.get 2 rfl
            go_wp2_with fail
            refine (join_state _ _ XA XB _ X11.out.st Y11.out.st).mono ?_
            rintro e w12 ⟨vN, rfl, hN, hb⟩
            have HB12 := hide (below_step HB11.out hb)
            have X12 := hide (X11.out.below hb (Nat.le_refl _))
            have Y12 := hide (Y11.out.below hb (Nat.le_refl _))
            have V12 := hide (V11.out.below hb (Nat.le_refl _))
            have G12 := hide (G11.out.below hb (Nat.le_refl _))
            have K12 := hide (K11.out.below hb (Nat.le_refl _))
            have M12 := hide (M11.out.below hb (Nat.le_refl _))
            have N12 := hide hN
            clear HB11 hb X11 Y11 V11 G11 K11 M11
            rw [HM2.out]
            rw [HM3.out] at N12
            clear cG0 cG1 cG2
            clear cK0 cK1 cK2
            obtain ⟨u1, v1, u2, v2, u3, v3, hvn⟩ := N12.out.formW
            subst hvn
            clear hN
            have HB13 := hide (below_step HB12.out (Below.plus (Below.refl _ w12) (.cells #[.slice u1 XJ.clock.length v1, .slice u2 XJ.lives.length v2, .slice u3 XJ.tals.length v3] 35)))
            have X13 := hide (X12.out.below (Below.plus (Below.refl _ w12) (.cells #[.slice u1 XJ.clock.length v1, .slice u2 XJ.lives.length v2, .slice u3 XJ.tals.length v3] 35)) (Nat.le_refl _))
            have Y13 := hide (Y12.out.below (Below.plus (Below.refl _ w12) (.cells #[.slice u1 XJ.clock.length v1, .slice u2 XJ.lives.length v2, .slice u3 XJ.tals.length v3] 35)) (Nat.le_refl _))
            have V13 := hide (V12.out.below (Below.plus (Below.refl _ w12) (.cells #[.slice u1 XJ.clock.length v1, .slice u2 XJ.lives.length v2, .slice u3 XJ.tals.length v3] 35)) (Nat.le_refl _))
            have G13 := hide (G12.out.below (Below.plus (Below.refl _ w12) (.cells #[.slice u1 XJ.clock.length v1, .slice u2 XJ.lives.length v2, .slice u3 XJ.tals.length v3] 35)) (Nat.le_refl _))
            have K13 := hide (K12.out.below (Below.plus (Below.refl _ w12) (.cells #[.slice u1 XJ.clock.length v1, .slice u2 XJ.lives.length v2, .slice u3 XJ.tals.length v3] 35)) (Nat.le_refl _))
            have M13 := hide (M12.out.below (Below.plus (Below.refl _ w12) (.cells #[.slice u1 XJ.clock.length v1, .slice u2 XJ.lives.length v2, .slice u3 XJ.tals.length v3] 35)) (Nat.le_refl _))
            have N13 := hide (N12.out.below (Below.plus (Below.refl _ w12) (.cells #[.slice u1 XJ.clock.length v1, .slice u2 XJ.lives.length v2, .slice u3 XJ.tals.length v3] 35)) (Nat.le_refl _))
            have O13 := hide (Box.new w12 [.slice u1 XJ.clock.length v1, .slice u2 XJ.lives.length v2, .slice u3 XJ.tals.length v3] 35)
            clear HB12 X12 Y12 V12 G12 K12 M12 N12
            have cO0 := O13.out.get 0 rfl
            have cO1 := O13.out.get 1 rfl
            have cO2 := O13.out.get 2 rfl
            have cM0 := M13.out.get 0 rfl
            have cM1 := M13.out.get 1 rfl
            have cM2 := M13.out.get 2 rfl
            go_wp2_with fail
            refine (same_st _ _ XJ _ N13.out.st V13.out.st).mono ?_
            rintro e w14 ⟨rfl, hb⟩
            have HB14 := hide (below_step HB13.out hb)
            have X14 := hide (X13.out.below hb (Nat.le_refl _))
            have Y14 := hide (Y13.out.below hb (Nat.le_refl _))
            have V14 := hide (V13.out.below hb (Nat.le_refl _))
            have G14 := hide (G13.out.below hb (Nat.le_refl _))
            have K14 := hide (K13.out.below hb (Nat.le_refl _))
            have M14 := hide (M13.out.below hb (Nat.le_refl _))
            have N14 := hide (N13.out.below hb (Nat.le_refl _))
            have O14 := hide (O13.out.below hb (Nat.le_refl _))
            clear HB13 hb X13 Y13 V13 G13 K13 M13 N13 O13
            go_wp2_with fail
            go_ret
            exact ⟨rfl, HB14.out⟩
      · have h3' : (eC != 0) = true := by simp [h3]
        clear h3
        go_enter Tryz.func3, Tryz.ntmps3
        go_wp2_with fail
        refine (alive5 _).mono ?_
        rintro e w1 ⟨rfl, hb⟩
        have HB1 := hide (below_step HB0.out hb)
        have L1 := hide (L0.out.below hb (Nat.le_refl _))
        have A1 := hide (A0.out.below hb (Nat.le_refl _))
        have B1 := hide (B0.out.below hb (Nat.le_refl _))
        clear HB0 hb L0 A0 B0
        go_wp2_with fail
        refine (wrong_clock _ a _ _ A1.out).mono ?_
        rintro e w' ⟨rfl, hw'⟩
        rw [hw']; clear hw' w'
        rw [HE1.out]
        go_wp2_with fail
        refine (wrong_clock _ b _ _ B1.out).mono ?_
        rintro e w' ⟨rfl, hw'⟩
        rw [hw']; clear hw' w'
        rw [HE2.out]
        have HB2 := hide (below_step HB1.out (Below.plus (Below.refl _ w1) (.cells cs 3)))
        have L2 := hide (L1.out.below (Below.plus (Below.refl _ w1) (.cells cs 3)) (Nat.le_refl _))
        have A2 := hide (A1.out.below (Below.plus (Below.refl _ w1) (.cells cs 3)) (Nat.le_refl _))
        have B2 := hide (B1.out.below (Below.plus (Below.refl _ w1) (.cells cs 3)) (Nat.le_refl _))
        have Z2 := hide ((HOZ.out w1).row)
        clear HB1 L1 A1 B1
        go_wp2_with fail
        refine (clock_log _ _ (zeroC k) l k _ Z2.out L2.out).mono ?_
        rintro e w3 ⟨vC, rfl, hC, hb⟩
        have HB3 := hide (below_step HB2.out hb)
        have L3 := hide (L2.out.below hb (Nat.le_refl _))
        have A3 := hide (A2.out.below hb (Nat.le_refl _))
        have B3 := hide (B2.out.below hb (Nat.le_refl _))
        have Z3 := hide (Z2.out.below hb (Nat.le_refl _))
        have C3 := hide hC
        clear HB2 hb L2 A2 B2 Z2
        rw [HeC.out, HaC.out]
        clear Z3
        clear C3
        obtain ⟨ac, cc, hvc, -⟩ := id hC
        subst hvc
        clear hC
        have HB4 := hide (below_step HB3.out (Below.plus (Below.refl _ w3) (.cells #[.int .i64 eC, .int .i64 aC] 29)))
        have L4 := hide (L3.out.below (Below.plus (Below.refl _ w3) (.cells #[.int .i64 eC, .int .i64 aC] 29)) (Nat.le_refl _))
        have A4 := hide (A3.out.below (Below.plus (Below.refl _ w3) (.cells #[.int .i64 eC, .int .i64 aC] 29)) (Nat.le_refl _))
        have B4 := hide (B3.out.below (Below.plus (Below.refl _ w3) (.cells #[.int .i64 eC, .int .i64 aC] 29)) (Nat.le_refl _))
        have F4 := hide (Box.new w3 [.int .i64 eC, .int .i64 aC] 29)
        clear HB3 L3 A3 B3
        have cF0 := F4.out.get 0 rfl
        have cF1 := F4.out.get 1 rfl
        go_wp2_with fail
        go_ret
        exact ⟨rfl, HB4.out⟩
    · subst h1
      have h2' : (E2 != 0) = true := by simp [h2]
      clear h2
      go_enter Tryz.func3, Tryz.ntmps3
      go_wp2_with fail
      refine (alive5 _).mono ?_
      rintro e w1 ⟨rfl, hb⟩
      have HB1 := hide (below_step HB0.out hb)
      have L1 := hide (L0.out.below hb (Nat.le_refl _))
      have A1 := hide (A0.out.below hb (Nat.le_refl _))
      have B1 := hide (B0.out.below hb (Nat.le_refl _))
      clear HB0 hb L0 A0 B0
      go_wp2_with fail
      refine (wrong_clock _ a n _ A1.out).mono ?_
      rintro e w' ⟨rfl, hw'⟩
      rw [hw']; clear hw' w'
      rw [HE1.out]
      go_wp2_with fail
      refine (wrong_clock _ b n _ B1.out).mono ?_
      rintro e w' ⟨rfl, hw'⟩
      rw [hw']; clear hw' w'
      rw [HE2.out]
      go_wp2_with fail
      go_ret
      exact ⟨rfl, HB1.out⟩
  · have h1' : (E1 != 0) = true := by simp [h1]
    clear h1
    go_enter Tryz.func3, Tryz.ntmps3
    go_wp2_with fail
    refine (alive5 _).mono ?_
    rintro e w1 ⟨rfl, hb⟩
    have HB1 := hide (below_step HB0.out hb)
    have L1 := hide (L0.out.below hb (Nat.le_refl _))
    have A1 := hide (A0.out.below hb (Nat.le_refl _))
    have B1 := hide (B0.out.below hb (Nat.le_refl _))
    clear HB0 hb L0 A0 B0
    go_wp2_with fail
    refine (wrong_clock _ a n _ A1.out).mono ?_
    rintro e w' ⟨rfl, hw'⟩
    rw [hw']; clear hw' w'
    rw [HE1.out]
    go_wp2_with fail
    go_ret
    exact ⟨rfl, HB1.out⟩
end Go.Proofs.YtkhhifkihpfdhaaGreat
