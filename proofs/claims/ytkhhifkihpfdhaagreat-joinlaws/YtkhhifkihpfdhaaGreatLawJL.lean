/- JoinLaws, walked: in whatever order, however often. -/
import Derived.Test.YtkhhifkihpfdhaaGreatLawJU
namespace Go.Proofs.YtkhhifkihpfdhaaGreat
open Go.RowKit

theorem laws_main {k : Nat} {a b c : List Int} {l : List Upd} (ha : wrongC a (k : Int) = 0) (hb : wrongC b (k : Int) = 0) (hc : wrongC c (k : Int) = 0) (hl : errL k (zeroC k) l = 0) (hn : l.length ≤ 300) (pa : playE (z0 k) (mine a l) = 0) (pb : playE (z0 k) (mine b l) = 0) (pc : playE (z0 k) (mine c l) = 0) :
    ∃ J JB L : StS, (joinE (playX (z0 k) (mine a l)) (playX (z0 k) (mine b l)) = 0 ∧ joinX (playX (z0 k) (mine a l)) (playX (z0 k) (mine b l)) = J) ∧ (joinE (playX (z0 k) (mine b l)) (playX (z0 k) (mine a l)) = 0 ∧ joinX (playX (z0 k) (mine b l)) (playX (z0 k) (mine a l)) = J) ∧
      (joinE (playX (z0 k) (mine a l)) (playX (z0 k) (mine a l)) = 0 ∧ joinX (playX (z0 k) (mine a l)) (playX (z0 k) (mine a l)) = playX (z0 k) (mine a l)) ∧ (joinE (playX (z0 k) (mine b l)) (playX (z0 k) (mine c l)) = 0 ∧ joinX (playX (z0 k) (mine b l)) (playX (z0 k) (mine c l)) = JB) ∧
      (joinE J (playX (z0 k) (mine c l)) = 0 ∧ joinX J (playX (z0 k) (mine c l)) = L) ∧ (joinE (playX (z0 k) (mine a l)) JB = 0 ∧ joinX (playX (z0 k) (mine a l)) JB = L) := by
  have hl' : errL k (zeroC (k : Int).toNat) l = 0 := by rw [Int.toNat_natCast]; exact hl
  have ca := (of_closed ha hl hn).1 pa
  have cb := (of_closed hb hl hn).1 pb
  have cc := (of_closed hc hl hn).1 pc
  rw [of_state pa, of_state pb, of_state pc]
  obtain ⟨a1, a2⟩ := union_main ha hb hl' ca cb
  obtain ⟨b1, b2⟩ := union_main hb ha hl' cb ca
  obtain ⟨c1, c2⟩ := union_main ha ha hl' ca ca
  obtain ⟨d1, d2⟩ := union_main hb hc hl' cb cc
  obtain ⟨e1, e2⟩ := union_main (join_good ha hb) hc hl' (closed_join ca cb) cc
  obtain ⟨f1, f2⟩ := union_main ha (join_good hb hc) hl' ca (closed_join cb cc)
  rw [joinC_comm hb ha] at b2
  rw [joinC_self] at c2
  rw [← joinC_assoc ha hb hc] at f2
  exact ⟨_, _, _, ⟨a1, a2⟩, ⟨b1, b2⟩, ⟨c1, c2⟩, ⟨d1, d2⟩, ⟨e1, e2⟩, f1, f2⟩

set_option maxRecDepth 100000 in
set_option maxHeartbeats 2000000 in
theorem laws_walk (lv av bv cv : Value) (l : List Upd) (n : Int) (a b c : List Int) (w0 : World) (hl : LogV w0 lv l) (ha : Row w0 av a) (hb : Row w0 bv b) (hc : Row w0 cv c) :
    Calls Tryz.prog 4 #[lv, .int .i64 n, av, bv, cv] w0 fun e w' => e = .returned (.bool true) ∧ Below w0.heap.size w0 w' := by
  obtain ⟨a4, cap4, rfl, -, -, -⟩ := id hl
  obtain ⟨a1, cap1, rfl, -, -, -⟩ := id ha
  obtain ⟨b1, dap1, rfl, -, -, -⟩ := id hb
  obtain ⟨c1, eap1, rfl, -, -, -⟩ := id hc
  have L0 := hide hl
  have A0 := hide ha
  have B0 := hide hb
  have C0 := hide hc
  have HB0 := hide (Below.refl w0.heap.size w0)
  clear hl ha hb hc
  obtain ⟨E1, HE1⟩ : ∃ E1, Hid (wrongC a n = E1) := ⟨_, rfl⟩
  obtain ⟨E2, HE2⟩ : ∃ E2, Hid (wrongC b n = E2) := ⟨_, rfl⟩
  obtain ⟨E3, HE3⟩ : ∃ E3, Hid (wrongC c n = E3) := ⟨_, rfl⟩
  go_enter Tryz.func4, Tryz.ntmps4
  go_wp2_with fail
  refine (alive5 _).mono ?_
  rintro e w1 ⟨rfl, hb⟩
  have HB1 := hide (below_step HB0.out hb)
  have L1 := hide (L0.out.below hb (Nat.le_refl _))
  have A1 := hide (A0.out.below hb (Nat.le_refl _))
  have B1 := hide (B0.out.below hb (Nat.le_refl _))
  have C1 := hide (C0.out.below hb (Nat.le_refl _))
  clear HB0 hb L0 A0 B0 C0
  have HB2 := hide (below_step HB1.out (Below.plus (Below.refl _ w1) (.cells #[.slice a1 a.length cap1, .slice b1 b.length dap1, .slice c1 c.length eap1] 24)))
  have L2 := hide (L1.out.below (Below.plus (Below.refl _ w1) (.cells #[.slice a1 a.length cap1, .slice b1 b.length dap1, .slice c1 c.length eap1] 24)) (Nat.le_refl _))
  have A2 := hide (A1.out.below (Below.plus (Below.refl _ w1) (.cells #[.slice a1 a.length cap1, .slice b1 b.length dap1, .slice c1 c.length eap1] 24)) (Nat.le_refl _))
  have B2 := hide (B1.out.below (Below.plus (Below.refl _ w1) (.cells #[.slice a1 a.length cap1, .slice b1 b.length dap1, .slice c1 c.length eap1] 24)) (Nat.le_refl _))
  have C2 := hide (C1.out.below (Below.plus (Below.refl _ w1) (.cells #[.slice a1 a.length cap1, .slice b1 b.length dap1, .slice c1 c.length eap1] 24)) (Nat.le_refl _))
  have T2 := hide (Box.new w1 [.slice a1 a.length cap1, .slice b1 b.length dap1, .slice c1 c.length eap1] 24)
  clear HB1 L1 A1 B1 C1
  have cT0 := T2.out.get 0 rfl
  have cT1 := T2.out.get 1 rfl
  have cT2 := T2.out.get 2 rfl
  go_wp2_with fail
  obtain ⟨w2, HW2⟩ : ∃ w2, Hid (w1.alloc (.cells #[.slice a1 a.length cap1, .slice b1 b.length dap1, .slice c1 c.length eap1] 24) = w2) := ⟨_, rfl⟩
  rw [HW2.out] at cT0 cT1 cT2 L2 A2 B2 C2 HB2 ⊢
  clear T2
  go_loop [37] (fun i => ∃ q : Int, (q = 0 ∨ q = 1 ∨ q = 2 ∨ q = 3) ∧ i = .int .i64 q ∧ Hid (1 ≤ q → E1 = 0) ∧ Hid (2 ≤ q → E2 = 0) ∧ Hid (3 ≤ q → E3 = 0)) (fun i => 3 - (intOf i).toNat)
  case atStart => exact ⟨0, .inl rfl, rfl, hide (fun h => by omega), hide (fun h => by omega), hide (fun h => by omega)⟩
  case round =>
    obtain ⟨q, hq, rfl, HQ1, HQ2, HQ3⟩ := hrel
    rcases hq with rfl | rfl | rfl | rfl
    · by_cases hE : E1 = 0
      · have hE' : (E1 != 0) = false := by simp [hE]
        have HEZ := hide hE
        clear hE
        go_wp2_with fail
        refine (wrong_clock _ a n _ A2.out).mono ?_
        rintro e w' ⟨rfl, hw'⟩
        rw [hw', HE1.out]
        clear hw' w'
        go_wp2_with fail
        go_round
        case rel => exact ⟨1, by omega, by go_num, hide (fun _ => HEZ.out), hide (fun h => by omega), hide (fun h => by omega)⟩
        case measure => simp [intOf]
      · have hE' : (E1 != 0) = true := by simp [hE]
        clear hE
        go_wp2_with fail
        refine (wrong_clock _ a n _ A2.out).mono ?_
        rintro e w' ⟨rfl, hw'⟩
        rw [hw', HE1.out]
        clear hw' w'
        go_wp2_with fail
        go_ret
        exact ⟨rfl, HB2.out⟩
    · by_cases hE : E2 = 0
      · have hE' : (E2 != 0) = false := by simp [hE]
        have HEZ := hide hE
        clear hE
        go_wp2_with fail
        refine (wrong_clock _ b n _ B2.out).mono ?_
        rintro e w' ⟨rfl, hw'⟩
        rw [hw', HE2.out]
        clear hw' w'
        go_wp2_with fail
        go_round
        case rel => exact ⟨2, by omega, by go_num, hide (fun _ => HQ1.out (by omega)), hide (fun _ => HEZ.out), hide (fun h => by omega)⟩
        case measure => simp [intOf]
      · have hE' : (E2 != 0) = true := by simp [hE]
        clear hE
        go_wp2_with fail
        refine (wrong_clock _ b n _ B2.out).mono ?_
        rintro e w' ⟨rfl, hw'⟩
        rw [hw', HE2.out]
        clear hw' w'
        go_wp2_with fail
        go_ret
        exact ⟨rfl, HB2.out⟩
    · by_cases hE : E3 = 0
      · have hE' : (E3 != 0) = false := by simp [hE]
        have HEZ := hide hE
        clear hE
        go_wp2_with fail
        refine (wrong_clock _ c n _ C2.out).mono ?_
        rintro e w' ⟨rfl, hw'⟩
        rw [hw', HE3.out]
        clear hw' w'
        go_wp2_with fail
        go_round
        case rel => exact ⟨3, by omega, by go_num, hide (fun _ => HQ1.out (by omega)), hide (fun _ => HQ2.out (by omega)), hide (fun _ => HEZ.out)⟩
        case measure => simp [intOf]
      · have hE' : (E3 != 0) = true := by simp [hE]
        clear hE
        go_wp2_with fail
        refine (wrong_clock _ c n _ C2.out).mono ?_
        rintro e w' ⟨rfl, hw'⟩
        rw [hw', HE3.out]
        clear hw' w'
        go_wp2_with fail
        go_ret
        exact ⟨rfl, HB2.out⟩
    · have z1 := HQ1.out (by omega)
      have z2 := HQ2.out (by omega)
      have z3 := HQ3.out (by omega)
      subst z1 z2 z3
      obtain ⟨g1, g2, g3, -⟩ := goodC_iff.1 HE1.out
      have g4 := (goodC_iff.1 HE2.out).2.2.1
      have g5 := (goodC_iff.1 HE3.out).2.2.1
      obtain ⟨k, rfl⟩ : ∃ k : Nat, n = (k : Int) := ⟨n.toNat, by omega⟩
      have hk6 : k ≤ 6 := by omega
      have HLA : Hid (a.length = k) := by unfold Hid; omega
      have HLB : Hid (b.length = k) := by unfold Hid; omega
      have HLC : Hid (c.length = k) := by unfold Hid; omega
      have hmk := fun w : World => run_make_clock hk6 w
      have hoz := fun w : World => own_zero w w.heap.size hk6 (Nat.le_refl _)
      obtain ⟨cs, HCS⟩ : ∃ cs, Hid (madeCells #[.int .i64 0] k = cs) := ⟨_, rfl⟩
      rw [HCS.out] at hmk
      simp only [HCS.out] at hoz
      have HOZ := hide hoz
      clear hoz g1 g2 g3 g4 g5 HQ1 HQ2 HQ3 cT0 cT1 cT2
      obtain ⟨eC, HeC⟩ : ∃ eC, Hid (clockE (zeroC k) l k = eC) := ⟨_, rfl⟩
      obtain ⟨aC, HaC⟩ : ∃ aC, Hid (clockA (zeroC k) l k = aC) := ⟨_, rfl⟩
      by_cases h3 : eC = 0
      · subst h3
        obtain ⟨-, r2, r3⟩ := clockE_iff.1 HeC.out
        have HWU := hide (errL_each l r3)
        have HLN := hide r2
        have HER := hide r3
        clear r2 r3
        obtain ⟨pa, HPA⟩ : ∃ pa, Hid (decide (playE (z0 k) (mine a l) = 0) = pa) := ⟨_, rfl⟩
        obtain ⟨pb, HPB⟩ : ∃ pb, Hid (decide (playE (z0 k) (mine b l) = 0) = pb) := ⟨_, rfl⟩
        obtain ⟨pc, HPC⟩ : ∃ pc, Hid (decide (playE (z0 k) (mine c l) = 0) = pc) := ⟨_, rfl⟩
        obtain ⟨XA, HXA⟩ : ∃ XA, Hid (playX (z0 k) (mine a l) = XA) := ⟨_, rfl⟩
        obtain ⟨XB, HXB⟩ : ∃ XB, Hid (playX (z0 k) (mine b l) = XB) := ⟨_, rfl⟩
        obtain ⟨XC, HXC⟩ : ∃ XC, Hid (playX (z0 k) (mine c l) = XC) := ⟨_, rfl⟩
        have HB3 := hide (below_step HB2.out (Below.plus (Below.refl _ w2) (.cells cs 3)))
        have L3 := hide (L2.out.below (Below.plus (Below.refl _ w2) (.cells cs 3)) (Nat.le_refl _))
        have A3 := hide (A2.out.below (Below.plus (Below.refl _ w2) (.cells cs 3)) (Nat.le_refl _))
        have B3 := hide (B2.out.below (Below.plus (Below.refl _ w2) (.cells cs 3)) (Nat.le_refl _))
        have C3 := hide (C2.out.below (Below.plus (Below.refl _ w2) (.cells cs 3)) (Nat.le_refl _))
        have Z3 := hide ((HOZ.out w2).row)
        clear HB2 L2 A2 B2 C2
        go_wp2_with fail
        refine (clock_log _ _ (zeroC k) l k _ Z3.out L3.out).mono ?_
        rintro e w4 ⟨vD, rfl, hD, hb⟩
        have HB4 := hide (below_step HB3.out hb)
        have L4 := hide (L3.out.below hb (Nat.le_refl _))
        have A4 := hide (A3.out.below hb (Nat.le_refl _))
        have B4 := hide (B3.out.below hb (Nat.le_refl _))
        have C4 := hide (C3.out.below hb (Nat.le_refl _))
        have Z4 := hide (Z3.out.below hb (Nat.le_refl _))
        have D4 := hide hD
        clear HB3 hb L3 A3 B3 C3 Z3
        rw [HeC.out, HaC.out]
        clear Z4
        clear D4
        obtain ⟨ac, cc, hvc, -⟩ := id hD
        subst hvc
        clear hD
        have HB5 := hide (below_step HB4.out (Below.plus (Below.refl _ w4) (.cells #[.int .i64 0, .int .i64 aC] 29)))
        have L5 := hide (L4.out.below (Below.plus (Below.refl _ w4) (.cells #[.int .i64 0, .int .i64 aC] 29)) (Nat.le_refl _))
        have A5 := hide (A4.out.below (Below.plus (Below.refl _ w4) (.cells #[.int .i64 0, .int .i64 aC] 29)) (Nat.le_refl _))
        have B5 := hide (B4.out.below (Below.plus (Below.refl _ w4) (.cells #[.int .i64 0, .int .i64 aC] 29)) (Nat.le_refl _))
        have C5 := hide (C4.out.below (Below.plus (Below.refl _ w4) (.cells #[.int .i64 0, .int .i64 aC] 29)) (Nat.le_refl _))
        have F5 := hide (Box.new w4 [.int .i64 0, .int .i64 aC] 29)
        clear HB4 L4 A4 B4 C4
        have cF0 := F5.out.get 0 rfl
        have cF1 := F5.out.get 1 rfl
        go_wp2_with fail
        refine (of_fn _ _ l a k _ L5.out A5.out hk6 HLA.out HWU.out HLN.out).mono ?_
        rintro e w6 ⟨vX, rfl, hX, hb⟩
        have HB6 := hide (below_step HB5.out hb)
        have L6 := hide (L5.out.below hb (Nat.le_refl _))
        have A6 := hide (A5.out.below hb (Nat.le_refl _))
        have B6 := hide (B5.out.below hb (Nat.le_refl _))
        have C6 := hide (C5.out.below hb (Nat.le_refl _))
        have F6 := hide (F5.out.below hb (Nat.le_refl _))
        have X6 := hide hX
        clear HB5 hb L5 A5 B5 C5 F5
        rw [HPA.out]
        rw [HXA.out] at X6
        obtain ⟨x1X, y1X, x2X, y2X, x3X, y3X, hvX⟩ := X6.out.formW
        subst hvX
        clear hX
        have HB7 := hide (below_step HB6.out (Below.plus (Below.refl _ w6) (.cells #[.slice x1X XA.clock.length y1X, .slice x2X XA.lives.length y2X, .slice x3X XA.tals.length y3X] 35)))
        have L7 := hide (L6.out.below (Below.plus (Below.refl _ w6) (.cells #[.slice x1X XA.clock.length y1X, .slice x2X XA.lives.length y2X, .slice x3X XA.tals.length y3X] 35)) (Nat.le_refl _))
        have A7 := hide (A6.out.below (Below.plus (Below.refl _ w6) (.cells #[.slice x1X XA.clock.length y1X, .slice x2X XA.lives.length y2X, .slice x3X XA.tals.length y3X] 35)) (Nat.le_refl _))
        have B7 := hide (B6.out.below (Below.plus (Below.refl _ w6) (.cells #[.slice x1X XA.clock.length y1X, .slice x2X XA.lives.length y2X, .slice x3X XA.tals.length y3X] 35)) (Nat.le_refl _))
        have C7 := hide (C6.out.below (Below.plus (Below.refl _ w6) (.cells #[.slice x1X XA.clock.length y1X, .slice x2X XA.lives.length y2X, .slice x3X XA.tals.length y3X] 35)) (Nat.le_refl _))
        have F7 := hide (F6.out.below (Below.plus (Below.refl _ w6) (.cells #[.slice x1X XA.clock.length y1X, .slice x2X XA.lives.length y2X, .slice x3X XA.tals.length y3X] 35)) (Nat.le_refl _))
        have X7 := hide (X6.out.below (Below.plus (Below.refl _ w6) (.cells #[.slice x1X XA.clock.length y1X, .slice x2X XA.lives.length y2X, .slice x3X XA.tals.length y3X] 35)) (Nat.le_refl _))
        have GX7 := hide (Box.new w6 [.slice x1X XA.clock.length y1X, .slice x2X XA.lives.length y2X, .slice x3X XA.tals.length y3X] 35)
        clear HB6 L6 A6 B6 C6 F6 X6
        go_wp2_with fail
        refine (of_fn _ _ l b k _ L7.out B7.out hk6 HLB.out HWU.out HLN.out).mono ?_
        rintro e w8 ⟨vY, rfl, hY, hb⟩
        have HB8 := hide (below_step HB7.out hb)
        have L8 := hide (L7.out.below hb (Nat.le_refl _))
        have A8 := hide (A7.out.below hb (Nat.le_refl _))
        have B8 := hide (B7.out.below hb (Nat.le_refl _))
        have C8 := hide (C7.out.below hb (Nat.le_refl _))
        have F8 := hide (F7.out.below hb (Nat.le_refl _))
        have X8 := hide (X7.out.below hb (Nat.le_refl _))
        have GX8 := hide (GX7.out.below hb (Nat.le_refl _))
        have Y8 := hide hY
        clear HB7 hb L7 A7 B7 C7 F7 X7 GX7
        rw [HPB.out]
        rw [HXB.out] at Y8
        obtain ⟨x1Y, y1Y, x2Y, y2Y, x3Y, y3Y, hvY⟩ := Y8.out.formW
        subst hvY
        clear hY
        have HB9 := hide (below_step HB8.out (Below.plus (Below.refl _ w8) (.cells #[.slice x1Y XB.clock.length y1Y, .slice x2Y XB.lives.length y2Y, .slice x3Y XB.tals.length y3Y] 35)))
        have L9 := hide (L8.out.below (Below.plus (Below.refl _ w8) (.cells #[.slice x1Y XB.clock.length y1Y, .slice x2Y XB.lives.length y2Y, .slice x3Y XB.tals.length y3Y] 35)) (Nat.le_refl _))
        have A9 := hide (A8.out.below (Below.plus (Below.refl _ w8) (.cells #[.slice x1Y XB.clock.length y1Y, .slice x2Y XB.lives.length y2Y, .slice x3Y XB.tals.length y3Y] 35)) (Nat.le_refl _))
        have B9 := hide (B8.out.below (Below.plus (Below.refl _ w8) (.cells #[.slice x1Y XB.clock.length y1Y, .slice x2Y XB.lives.length y2Y, .slice x3Y XB.tals.length y3Y] 35)) (Nat.le_refl _))
        have C9 := hide (C8.out.below (Below.plus (Below.refl _ w8) (.cells #[.slice x1Y XB.clock.length y1Y, .slice x2Y XB.lives.length y2Y, .slice x3Y XB.tals.length y3Y] 35)) (Nat.le_refl _))
        have F9 := hide (F8.out.below (Below.plus (Below.refl _ w8) (.cells #[.slice x1Y XB.clock.length y1Y, .slice x2Y XB.lives.length y2Y, .slice x3Y XB.tals.length y3Y] 35)) (Nat.le_refl _))
        have X9 := hide (X8.out.below (Below.plus (Below.refl _ w8) (.cells #[.slice x1Y XB.clock.length y1Y, .slice x2Y XB.lives.length y2Y, .slice x3Y XB.tals.length y3Y] 35)) (Nat.le_refl _))
        have GX9 := hide (GX8.out.below (Below.plus (Below.refl _ w8) (.cells #[.slice x1Y XB.clock.length y1Y, .slice x2Y XB.lives.length y2Y, .slice x3Y XB.tals.length y3Y] 35)) (Nat.le_refl _))
        have Y9 := hide (Y8.out.below (Below.plus (Below.refl _ w8) (.cells #[.slice x1Y XB.clock.length y1Y, .slice x2Y XB.lives.length y2Y, .slice x3Y XB.tals.length y3Y] 35)) (Nat.le_refl _))
        have GY9 := hide (Box.new w8 [.slice x1Y XB.clock.length y1Y, .slice x2Y XB.lives.length y2Y, .slice x3Y XB.tals.length y3Y] 35)
        clear HB8 L8 A8 B8 C8 F8 X8 GX8 Y8
        go_wp2_with fail
        refine (of_fn _ _ l c k _ L9.out C9.out hk6 HLC.out HWU.out HLN.out).mono ?_
        rintro e w10 ⟨vV, rfl, hV, hb⟩
        have HB10 := hide (below_step HB9.out hb)
        have L10 := hide (L9.out.below hb (Nat.le_refl _))
        have A10 := hide (A9.out.below hb (Nat.le_refl _))
        have B10 := hide (B9.out.below hb (Nat.le_refl _))
        have C10 := hide (C9.out.below hb (Nat.le_refl _))
        have F10 := hide (F9.out.below hb (Nat.le_refl _))
        have X10 := hide (X9.out.below hb (Nat.le_refl _))
        have GX10 := hide (GX9.out.below hb (Nat.le_refl _))
        have Y10 := hide (Y9.out.below hb (Nat.le_refl _))
        have GY10 := hide (GY9.out.below hb (Nat.le_refl _))
        have V10 := hide hV
        clear HB9 hb L9 A9 B9 C9 F9 X9 GX9 Y9 GY9
        rw [HPC.out]
        rw [HXC.out] at V10
        obtain ⟨x1V, y1V, x2V, y2V, x3V, y3V, hvV⟩ := V10.out.formW
        subst hvV
        clear hV
        have HB11 := hide (below_step HB10.out (Below.plus (Below.refl _ w10) (.cells #[.slice x1V XC.clock.length y1V, .slice x2V XC.lives.length y2V, .slice x3V XC.tals.length y3V] 35)))
        have L11 := hide (L10.out.below (Below.plus (Below.refl _ w10) (.cells #[.slice x1V XC.clock.length y1V, .slice x2V XC.lives.length y2V, .slice x3V XC.tals.length y3V] 35)) (Nat.le_refl _))
        have A11 := hide (A10.out.below (Below.plus (Below.refl _ w10) (.cells #[.slice x1V XC.clock.length y1V, .slice x2V XC.lives.length y2V, .slice x3V XC.tals.length y3V] 35)) (Nat.le_refl _))
        have B11 := hide (B10.out.below (Below.plus (Below.refl _ w10) (.cells #[.slice x1V XC.clock.length y1V, .slice x2V XC.lives.length y2V, .slice x3V XC.tals.length y3V] 35)) (Nat.le_refl _))
        have C11 := hide (C10.out.below (Below.plus (Below.refl _ w10) (.cells #[.slice x1V XC.clock.length y1V, .slice x2V XC.lives.length y2V, .slice x3V XC.tals.length y3V] 35)) (Nat.le_refl _))
        have F11 := hide (F10.out.below (Below.plus (Below.refl _ w10) (.cells #[.slice x1V XC.clock.length y1V, .slice x2V XC.lives.length y2V, .slice x3V XC.tals.length y3V] 35)) (Nat.le_refl _))
        have X11 := hide (X10.out.below (Below.plus (Below.refl _ w10) (.cells #[.slice x1V XC.clock.length y1V, .slice x2V XC.lives.length y2V, .slice x3V XC.tals.length y3V] 35)) (Nat.le_refl _))
        have GX11 := hide (GX10.out.below (Below.plus (Below.refl _ w10) (.cells #[.slice x1V XC.clock.length y1V, .slice x2V XC.lives.length y2V, .slice x3V XC.tals.length y3V] 35)) (Nat.le_refl _))
        have Y11 := hide (Y10.out.below (Below.plus (Below.refl _ w10) (.cells #[.slice x1V XC.clock.length y1V, .slice x2V XC.lives.length y2V, .slice x3V XC.tals.length y3V] 35)) (Nat.le_refl _))
        have GY11 := hide (GY10.out.below (Below.plus (Below.refl _ w10) (.cells #[.slice x1V XC.clock.length y1V, .slice x2V XC.lives.length y2V, .slice x3V XC.tals.length y3V] 35)) (Nat.le_refl _))
        have V11 := hide (V10.out.below (Below.plus (Below.refl _ w10) (.cells #[.slice x1V XC.clock.length y1V, .slice x2V XC.lives.length y2V, .slice x3V XC.tals.length y3V] 35)) (Nat.le_refl _))
        have GV11 := hide (Box.new w10 [.slice x1V XC.clock.length y1V, .slice x2V XC.lives.length y2V, .slice x3V XC.tals.length y3V] 35)
        clear HB10 L10 A10 B10 C10 F10 X10 GX10 Y10 GY10 V10
        clear cF0 cF1
        cases pa
        · go_wp2_with fail
          go_ret
          exact ⟨rfl, HB11.out⟩
        · cases pb
          · go_wp2_with fail
            go_ret
            exact ⟨rfl, HB11.out⟩
          · cases pc
            · go_wp2_with fail
              go_ret
              exact ⟨rfl, HB11.out⟩
            · obtain ⟨J, JB, LL, ⟨m1, m2⟩, ⟨m3, m4⟩, ⟨m5, m6⟩, ⟨m7, m8⟩, ⟨m9, m10⟩, m11, m12⟩ := laws_main HE1.out HE2.out HE3.out HER.out HLN.out (of_decide_eq_true HPA.out) (of_decide_eq_true HPB.out) (of_decide_eq_true HPC.out)
              rw [HXA.out, HXB.out] at m1 m2 m3 m4
              rw [HXA.out] at m5 m6
              rw [HXB.out, HXC.out] at m7 m8
              rw [HXC.out] at m9 m10
              rw [HXA.out] at m11 m12
              have HM1 := hide m1
              have HM2 := hide m2
              have HM3 := hide m3
              have HM4 := hide m4
              have HM5 := hide m5
              have HM6 := hide m6
              have HM7 := hide m7
              have HM8 := hide m8
              have HM9 := hide m9
              have HM10 := hide m10
              have HM11 := hide m11
              have HM12 := hide m12
              clear m1 m2 m3 m4 m5 m6 m7 m8 m9 m10 m11 m12
              have cGX0 := GX11.out.get 0 rfl
              have cGX1 := GX11.out.get 1 rfl
              have cGX2 := GX11.out.get 2 rfl
              have cGY0 := GY11.out.get 0 rfl
              have cGY1 := GY11.out.get 1 rfl
              have cGY2 := GY11.out.get 2 rfl
              go_wp2_with fail
              refine (join_state _ _ XA XB _ X11.out.st Y11.out.st).mono ?_
              rintro e w12 ⟨vN, rfl, hN, hb⟩
              have HB12 := hide (below_step HB11.out hb)
              have X12 := hide (X11.out.below hb (Nat.le_refl _))
              have Y12 := hide (Y11.out.below hb (Nat.le_refl _))
              have V12 := hide (V11.out.below hb (Nat.le_refl _))
              have GX12 := hide (GX11.out.below hb (Nat.le_refl _))
              have GY12 := hide (GY11.out.below hb (Nat.le_refl _))
              have GV12 := hide (GV11.out.below hb (Nat.le_refl _))
              have N12 := hide hN
              clear HB11 hb X11 Y11 V11 GX11 GY11 GV11
              rw [HM1.out]
              rw [HM2.out] at N12
              clear cGX0 cGX1 cGX2
              clear cGY0 cGY1 cGY2
              obtain ⟨x1N, y1N, x2N, y2N, x3N, y3N, hvN⟩ := N12.out.formW
              subst hvN
              clear hN
              have HB13 := hide (below_step HB12.out (Below.plus (Below.refl _ w12) (.cells #[.slice x1N J.clock.length y1N, .slice x2N J.lives.length y2N, .slice x3N J.tals.length y3N] 35)))
              have X13 := hide (X12.out.below (Below.plus (Below.refl _ w12) (.cells #[.slice x1N J.clock.length y1N, .slice x2N J.lives.length y2N, .slice x3N J.tals.length y3N] 35)) (Nat.le_refl _))
              have Y13 := hide (Y12.out.below (Below.plus (Below.refl _ w12) (.cells #[.slice x1N J.clock.length y1N, .slice x2N J.lives.length y2N, .slice x3N J.tals.length y3N] 35)) (Nat.le_refl _))
              have V13 := hide (V12.out.below (Below.plus (Below.refl _ w12) (.cells #[.slice x1N J.clock.length y1N, .slice x2N J.lives.length y2N, .slice x3N J.tals.length y3N] 35)) (Nat.le_refl _))
              have GX13 := hide (GX12.out.below (Below.plus (Below.refl _ w12) (.cells #[.slice x1N J.clock.length y1N, .slice x2N J.lives.length y2N, .slice x3N J.tals.length y3N] 35)) (Nat.le_refl _))
              have GY13 := hide (GY12.out.below (Below.plus (Below.refl _ w12) (.cells #[.slice x1N J.clock.length y1N, .slice x2N J.lives.length y2N, .slice x3N J.tals.length y3N] 35)) (Nat.le_refl _))
              have GV13 := hide (GV12.out.below (Below.plus (Below.refl _ w12) (.cells #[.slice x1N J.clock.length y1N, .slice x2N J.lives.length y2N, .slice x3N J.tals.length y3N] 35)) (Nat.le_refl _))
              have N13 := hide (N12.out.below (Below.plus (Below.refl _ w12) (.cells #[.slice x1N J.clock.length y1N, .slice x2N J.lives.length y2N, .slice x3N J.tals.length y3N] 35)) (Nat.le_refl _))
              have GN13 := hide (Box.new w12 [.slice x1N J.clock.length y1N, .slice x2N J.lives.length y2N, .slice x3N J.tals.length y3N] 35)
              clear HB12 X12 Y12 V12 GX12 GY12 GV12 N12
              have cGY0 := GY13.out.get 0 rfl
              have cGY1 := GY13.out.get 1 rfl
              have cGY2 := GY13.out.get 2 rfl
              have cGX0 := GX13.out.get 0 rfl
              have cGX1 := GX13.out.get 1 rfl
              have cGX2 := GX13.out.get 2 rfl
              go_wp2_with fail
              refine (join_state _ _ XB XA _ Y13.out.st X13.out.st).mono ?_
              rintro e w14 ⟨vO, rfl, hO, hb⟩
              have HB14 := hide (below_step HB13.out hb)
              have X14 := hide (X13.out.below hb (Nat.le_refl _))
              have Y14 := hide (Y13.out.below hb (Nat.le_refl _))
              have V14 := hide (V13.out.below hb (Nat.le_refl _))
              have GX14 := hide (GX13.out.below hb (Nat.le_refl _))
              have GY14 := hide (GY13.out.below hb (Nat.le_refl _))
              have GV14 := hide (GV13.out.below hb (Nat.le_refl _))
              have N14 := hide (N13.out.below hb (Nat.le_refl _))
              have GN14 := hide (GN13.out.below hb (Nat.le_refl _))
              have O14 := hide hO
              clear HB13 hb X13 Y13 V13 GX13 GY13 GV13 N13 GN13
              rw [HM3.out]
              rw [HM4.out] at O14
              clear cGY0 cGY1 cGY2
              clear cGX0 cGX1 cGX2
              obtain ⟨x1O, y1O, x2O, y2O, x3O, y3O, hvO⟩ := O14.out.formW
              subst hvO
              clear hO
              have HB15 := hide (below_step HB14.out (Below.plus (Below.refl _ w14) (.cells #[.slice x1O J.clock.length y1O, .slice x2O J.lives.length y2O, .slice x3O J.tals.length y3O] 35)))
              have X15 := hide (X14.out.below (Below.plus (Below.refl _ w14) (.cells #[.slice x1O J.clock.length y1O, .slice x2O J.lives.length y2O, .slice x3O J.tals.length y3O] 35)) (Nat.le_refl _))
              have Y15 := hide (Y14.out.below (Below.plus (Below.refl _ w14) (.cells #[.slice x1O J.clock.length y1O, .slice x2O J.lives.length y2O, .slice x3O J.tals.length y3O] 35)) (Nat.le_refl _))
              have V15 := hide (V14.out.below (Below.plus (Below.refl _ w14) (.cells #[.slice x1O J.clock.length y1O, .slice x2O J.lives.length y2O, .slice x3O J.tals.length y3O] 35)) (Nat.le_refl _))
              have GX15 := hide (GX14.out.below (Below.plus (Below.refl _ w14) (.cells #[.slice x1O J.clock.length y1O, .slice x2O J.lives.length y2O, .slice x3O J.tals.length y3O] 35)) (Nat.le_refl _))
              have GY15 := hide (GY14.out.below (Below.plus (Below.refl _ w14) (.cells #[.slice x1O J.clock.length y1O, .slice x2O J.lives.length y2O, .slice x3O J.tals.length y3O] 35)) (Nat.le_refl _))
              have GV15 := hide (GV14.out.below (Below.plus (Below.refl _ w14) (.cells #[.slice x1O J.clock.length y1O, .slice x2O J.lives.length y2O, .slice x3O J.tals.length y3O] 35)) (Nat.le_refl _))
              have N15 := hide (N14.out.below (Below.plus (Below.refl _ w14) (.cells #[.slice x1O J.clock.length y1O, .slice x2O J.lives.length y2O, .slice x3O J.tals.length y3O] 35)) (Nat.le_refl _))
              have GN15 := hide (GN14.out.below (Below.plus (Below.refl _ w14) (.cells #[.slice x1O J.clock.length y1O, .slice x2O J.lives.length y2O, .slice x3O J.tals.length y3O] 35)) (Nat.le_refl _))
              have O15 := hide (O14.out.below (Below.plus (Below.refl _ w14) (.cells #[.slice x1O J.clock.length y1O, .slice x2O J.lives.length y2O, .slice x3O J.tals.length y3O] 35)) (Nat.le_refl _))
              have GO15 := hide (Box.new w14 [.slice x1O J.clock.length y1O, .slice x2O J.lives.length y2O, .slice x3O J.tals.length y3O] 35)
              clear HB14 X14 Y14 V14 GX14 GY14 GV14 N14 GN14 O14
              have cGX0 := GX15.out.get 0 rfl
              have cGX1 := GX15.out.get 1 rfl
              have cGX2 := GX15.out.get 2 rfl
              go_wp2_with fail
              refine (join_state _ _ XA XA _ X15.out.st X15.out.st).mono ?_
              rintro e w16 ⟨vP, rfl, hP, hb⟩
              have HB16 := hide (below_step HB15.out hb)
              have X16 := hide (X15.out.below hb (Nat.le_refl _))
              have Y16 := hide (Y15.out.below hb (Nat.le_refl _))
              have V16 := hide (V15.out.below hb (Nat.le_refl _))
              have GX16 := hide (GX15.out.below hb (Nat.le_refl _))
              have GY16 := hide (GY15.out.below hb (Nat.le_refl _))
              have GV16 := hide (GV15.out.below hb (Nat.le_refl _))
              have N16 := hide (N15.out.below hb (Nat.le_refl _))
              have GN16 := hide (GN15.out.below hb (Nat.le_refl _))
              have O16 := hide (O15.out.below hb (Nat.le_refl _))
              have GO16 := hide (GO15.out.below hb (Nat.le_refl _))
              have P16 := hide hP
              clear HB15 hb X15 Y15 V15 GX15 GY15 GV15 N15 GN15 O15 GO15
              rw [HM5.out]
              rw [HM6.out] at P16
              clear cGX0 cGX1 cGX2
              obtain ⟨x1P, y1P, x2P, y2P, x3P, y3P, hvP⟩ := P16.out.formW
              subst hvP
              clear hP
              have HB17 := hide (below_step HB16.out (Below.plus (Below.refl _ w16) (.cells #[.slice x1P XA.clock.length y1P, .slice x2P XA.lives.length y2P, .slice x3P XA.tals.length y3P] 35)))
              have X17 := hide (X16.out.below (Below.plus (Below.refl _ w16) (.cells #[.slice x1P XA.clock.length y1P, .slice x2P XA.lives.length y2P, .slice x3P XA.tals.length y3P] 35)) (Nat.le_refl _))
              have Y17 := hide (Y16.out.below (Below.plus (Below.refl _ w16) (.cells #[.slice x1P XA.clock.length y1P, .slice x2P XA.lives.length y2P, .slice x3P XA.tals.length y3P] 35)) (Nat.le_refl _))
              have V17 := hide (V16.out.below (Below.plus (Below.refl _ w16) (.cells #[.slice x1P XA.clock.length y1P, .slice x2P XA.lives.length y2P, .slice x3P XA.tals.length y3P] 35)) (Nat.le_refl _))
              have GX17 := hide (GX16.out.below (Below.plus (Below.refl _ w16) (.cells #[.slice x1P XA.clock.length y1P, .slice x2P XA.lives.length y2P, .slice x3P XA.tals.length y3P] 35)) (Nat.le_refl _))
              have GY17 := hide (GY16.out.below (Below.plus (Below.refl _ w16) (.cells #[.slice x1P XA.clock.length y1P, .slice x2P XA.lives.length y2P, .slice x3P XA.tals.length y3P] 35)) (Nat.le_refl _))
              have GV17 := hide (GV16.out.below (Below.plus (Below.refl _ w16) (.cells #[.slice x1P XA.clock.length y1P, .slice x2P XA.lives.length y2P, .slice x3P XA.tals.length y3P] 35)) (Nat.le_refl _))
              have N17 := hide (N16.out.below (Below.plus (Below.refl _ w16) (.cells #[.slice x1P XA.clock.length y1P, .slice x2P XA.lives.length y2P, .slice x3P XA.tals.length y3P] 35)) (Nat.le_refl _))
              have GN17 := hide (GN16.out.below (Below.plus (Below.refl _ w16) (.cells #[.slice x1P XA.clock.length y1P, .slice x2P XA.lives.length y2P, .slice x3P XA.tals.length y3P] 35)) (Nat.le_refl _))
              have O17 := hide (O16.out.below (Below.plus (Below.refl _ w16) (.cells #[.slice x1P XA.clock.length y1P, .slice x2P XA.lives.length y2P, .slice x3P XA.tals.length y3P] 35)) (Nat.le_refl _))
              have GO17 := hide (GO16.out.below (Below.plus (Below.refl _ w16) (.cells #[.slice x1P XA.clock.length y1P, .slice x2P XA.lives.length y2P, .slice x3P XA.tals.length y3P] 35)) (Nat.le_refl _))
              have P17 := hide (P16.out.below (Below.plus (Below.refl _ w16) (.cells #[.slice x1P XA.clock.length y1P, .slice x2P XA.lives.length y2P, .slice x3P XA.tals.length y3P] 35)) (Nat.le_refl _))
              have GP17 := hide (Box.new w16 [.slice x1P XA.clock.length y1P, .slice x2P XA.lives.length y2P, .slice x3P XA.tals.length y3P] 35)
              clear HB16 X16 Y16 V16 GX16 GY16 GV16 N16 GN16 O16 GO16 P16
              have cGN0 := GN17.out.get 0 rfl
              have cGN1 := GN17.out.get 1 rfl
              have cGN2 := GN17.out.get 2 rfl
              have cGO0 := GO17.out.get 0 rfl
              have cGO1 := GO17.out.get 1 rfl
              have cGO2 := GO17.out.get 2 rfl
              have cGP0 := GP17.out.get 0 rfl
              have cGP1 := GP17.out.get 1 rfl
              have cGP2 := GP17.out.get 2 rfl
              have cGX0 := GX17.out.get 0 rfl
              have cGX1 := GX17.out.get 1 rfl
              have cGX2 := GX17.out.get 2 rfl
              go_wp2_with fail
              refine (same_st _ _ J _ N17.out.st O17.out.st).mono ?_
              rintro e w18 ⟨rfl, hb⟩
              have HB18 := hide (below_step HB17.out hb)
              have X18 := hide (X17.out.below hb (Nat.le_refl _))
              have Y18 := hide (Y17.out.below hb (Nat.le_refl _))
              have V18 := hide (V17.out.below hb (Nat.le_refl _))
              have GX18 := hide (GX17.out.below hb (Nat.le_refl _))
              have GY18 := hide (GY17.out.below hb (Nat.le_refl _))
              have GV18 := hide (GV17.out.below hb (Nat.le_refl _))
              have N18 := hide (N17.out.below hb (Nat.le_refl _))
              have GN18 := hide (GN17.out.below hb (Nat.le_refl _))
              have O18 := hide (O17.out.below hb (Nat.le_refl _))
              have GO18 := hide (GO17.out.below hb (Nat.le_refl _))
              have P18 := hide (P17.out.below hb (Nat.le_refl _))
              have GP18 := hide (GP17.out.below hb (Nat.le_refl _))
              clear HB17 hb X17 Y17 V17 GX17 GY17 GV17 N17 GN17 O17 GO17 P17 GP17
              clear cGN0 cGN1 cGN2
              clear cGO0 cGO1 cGO2
              clear cGP0 cGP1 cGP2
              clear cGX0 cGX1 cGX2
              have cGP0 := GP18.out.get 0 rfl
              have cGP1 := GP18.out.get 1 rfl
              have cGP2 := GP18.out.get 2 rfl
              have cGX0 := GX18.out.get 0 rfl
              have cGX1 := GX18.out.get 1 rfl
              have cGX2 := GX18.out.get 2 rfl
              go_wp2_with fail
              refine (same_st _ _ XA _ P18.out.st X18.out.st).mono ?_
              rintro e w19 ⟨rfl, hb⟩
              have HB19 := hide (below_step HB18.out hb)
              have X19 := hide (X18.out.below hb (Nat.le_refl _))
              have Y19 := hide (Y18.out.below hb (Nat.le_refl _))
              have V19 := hide (V18.out.below hb (Nat.le_refl _))
              have GX19 := hide (GX18.out.below hb (Nat.le_refl _))
              have GY19 := hide (GY18.out.below hb (Nat.le_refl _))
              have GV19 := hide (GV18.out.below hb (Nat.le_refl _))
              have N19 := hide (N18.out.below hb (Nat.le_refl _))
              have GN19 := hide (GN18.out.below hb (Nat.le_refl _))
              have O19 := hide (O18.out.below hb (Nat.le_refl _))
              have GO19 := hide (GO18.out.below hb (Nat.le_refl _))
              have P19 := hide (P18.out.below hb (Nat.le_refl _))
              have GP19 := hide (GP18.out.below hb (Nat.le_refl _))
              clear HB18 hb X18 Y18 V18 GX18 GY18 GV18 N18 GN18 O18 GO18 P18 GP18
              clear cGP0 cGP1 cGP2
              clear cGX0 cGX1 cGX2
              clear O19 P19 GO19 GP19
              have cGY0 := GY19.out.get 0 rfl
              have cGY1 := GY19.out.get 1 rfl
              have cGY2 := GY19.out.get 2 rfl
              have cGV0 := GV19.out.get 0 rfl
              have cGV1 := GV19.out.get 1 rfl
              have cGV2 := GV19.out.get 2 rfl
              go_wp2_with fail
              refine (join_state _ _ XB XC _ Y19.out.st V19.out.st).mono ?_
              rintro e w20 ⟨vQ, rfl, hQ, hb⟩
              have HB20 := hide (below_step HB19.out hb)
              have X20 := hide (X19.out.below hb (Nat.le_refl _))
              have Y20 := hide (Y19.out.below hb (Nat.le_refl _))
              have V20 := hide (V19.out.below hb (Nat.le_refl _))
              have GX20 := hide (GX19.out.below hb (Nat.le_refl _))
              have GY20 := hide (GY19.out.below hb (Nat.le_refl _))
              have GV20 := hide (GV19.out.below hb (Nat.le_refl _))
              have N20 := hide (N19.out.below hb (Nat.le_refl _))
              have GN20 := hide (GN19.out.below hb (Nat.le_refl _))
              have Q20 := hide hQ
              clear HB19 hb X19 Y19 V19 GX19 GY19 GV19 N19 GN19
              rw [HM7.out]
              rw [HM8.out] at Q20
              clear cGY0 cGY1 cGY2
              clear cGV0 cGV1 cGV2
              obtain ⟨x1Q, y1Q, x2Q, y2Q, x3Q, y3Q, hvQ⟩ := Q20.out.formW
              subst hvQ
              clear hQ
              have HB21 := hide (below_step HB20.out (Below.plus (Below.refl _ w20) (.cells #[.slice x1Q JB.clock.length y1Q, .slice x2Q JB.lives.length y2Q, .slice x3Q JB.tals.length y3Q] 35)))
              have X21 := hide (X20.out.below (Below.plus (Below.refl _ w20) (.cells #[.slice x1Q JB.clock.length y1Q, .slice x2Q JB.lives.length y2Q, .slice x3Q JB.tals.length y3Q] 35)) (Nat.le_refl _))
              have Y21 := hide (Y20.out.below (Below.plus (Below.refl _ w20) (.cells #[.slice x1Q JB.clock.length y1Q, .slice x2Q JB.lives.length y2Q, .slice x3Q JB.tals.length y3Q] 35)) (Nat.le_refl _))
              have V21 := hide (V20.out.below (Below.plus (Below.refl _ w20) (.cells #[.slice x1Q JB.clock.length y1Q, .slice x2Q JB.lives.length y2Q, .slice x3Q JB.tals.length y3Q] 35)) (Nat.le_refl _))
              have GX21 := hide (GX20.out.below (Below.plus (Below.refl _ w20) (.cells #[.slice x1Q JB.clock.length y1Q, .slice x2Q JB.lives.length y2Q, .slice x3Q JB.tals.length y3Q] 35)) (Nat.le_refl _))
              have GY21 := hide (GY20.out.below (Below.plus (Below.refl _ w20) (.cells #[.slice x1Q JB.clock.length y1Q, .slice x2Q JB.lives.length y2Q, .slice x3Q JB.tals.length y3Q] 35)) (Nat.le_refl _))
              have GV21 := hide (GV20.out.below (Below.plus (Below.refl _ w20) (.cells #[.slice x1Q JB.clock.length y1Q, .slice x2Q JB.lives.length y2Q, .slice x3Q JB.tals.length y3Q] 35)) (Nat.le_refl _))
              have N21 := hide (N20.out.below (Below.plus (Below.refl _ w20) (.cells #[.slice x1Q JB.clock.length y1Q, .slice x2Q JB.lives.length y2Q, .slice x3Q JB.tals.length y3Q] 35)) (Nat.le_refl _))
              have GN21 := hide (GN20.out.below (Below.plus (Below.refl _ w20) (.cells #[.slice x1Q JB.clock.length y1Q, .slice x2Q JB.lives.length y2Q, .slice x3Q JB.tals.length y3Q] 35)) (Nat.le_refl _))
              have Q21 := hide (Q20.out.below (Below.plus (Below.refl _ w20) (.cells #[.slice x1Q JB.clock.length y1Q, .slice x2Q JB.lives.length y2Q, .slice x3Q JB.tals.length y3Q] 35)) (Nat.le_refl _))
              have GQ21 := hide (Box.new w20 [.slice x1Q JB.clock.length y1Q, .slice x2Q JB.lives.length y2Q, .slice x3Q JB.tals.length y3Q] 35)
              clear HB20 X20 Y20 V20 GX20 GY20 GV20 N20 GN20 Q20
              have cGN0 := GN21.out.get 0 rfl
              have cGN1 := GN21.out.get 1 rfl
              have cGN2 := GN21.out.get 2 rfl
              have cGV0 := GV21.out.get 0 rfl
              have cGV1 := GV21.out.get 1 rfl
              have cGV2 := GV21.out.get 2 rfl
              go_wp2_with fail
              refine (join_state _ _ J XC _ N21.out.st V21.out.st).mono ?_
              rintro e w22 ⟨vR, rfl, hR, hb⟩
              have HB22 := hide (below_step HB21.out hb)
              have X22 := hide (X21.out.below hb (Nat.le_refl _))
              have Y22 := hide (Y21.out.below hb (Nat.le_refl _))
              have V22 := hide (V21.out.below hb (Nat.le_refl _))
              have GX22 := hide (GX21.out.below hb (Nat.le_refl _))
              have GY22 := hide (GY21.out.below hb (Nat.le_refl _))
              have GV22 := hide (GV21.out.below hb (Nat.le_refl _))
              have N22 := hide (N21.out.below hb (Nat.le_refl _))
              have GN22 := hide (GN21.out.below hb (Nat.le_refl _))
              have Q22 := hide (Q21.out.below hb (Nat.le_refl _))
              have GQ22 := hide (GQ21.out.below hb (Nat.le_refl _))
              have R22 := hide hR
              clear HB21 hb X21 Y21 V21 GX21 GY21 GV21 N21 GN21 Q21 GQ21
              rw [HM9.out]
              rw [HM10.out] at R22
              clear cGN0 cGN1 cGN2
              clear cGV0 cGV1 cGV2
              obtain ⟨x1R, y1R, x2R, y2R, x3R, y3R, hvR⟩ := R22.out.formW
              subst hvR
              clear hR
              have HB23 := hide (below_step HB22.out (Below.plus (Below.refl _ w22) (.cells #[.slice x1R LL.clock.length y1R, .slice x2R LL.lives.length y2R, .slice x3R LL.tals.length y3R] 35)))
              have X23 := hide (X22.out.below (Below.plus (Below.refl _ w22) (.cells #[.slice x1R LL.clock.length y1R, .slice x2R LL.lives.length y2R, .slice x3R LL.tals.length y3R] 35)) (Nat.le_refl _))
              have Y23 := hide (Y22.out.below (Below.plus (Below.refl _ w22) (.cells #[.slice x1R LL.clock.length y1R, .slice x2R LL.lives.length y2R, .slice x3R LL.tals.length y3R] 35)) (Nat.le_refl _))
              have V23 := hide (V22.out.below (Below.plus (Below.refl _ w22) (.cells #[.slice x1R LL.clock.length y1R, .slice x2R LL.lives.length y2R, .slice x3R LL.tals.length y3R] 35)) (Nat.le_refl _))
              have GX23 := hide (GX22.out.below (Below.plus (Below.refl _ w22) (.cells #[.slice x1R LL.clock.length y1R, .slice x2R LL.lives.length y2R, .slice x3R LL.tals.length y3R] 35)) (Nat.le_refl _))
              have GY23 := hide (GY22.out.below (Below.plus (Below.refl _ w22) (.cells #[.slice x1R LL.clock.length y1R, .slice x2R LL.lives.length y2R, .slice x3R LL.tals.length y3R] 35)) (Nat.le_refl _))
              have GV23 := hide (GV22.out.below (Below.plus (Below.refl _ w22) (.cells #[.slice x1R LL.clock.length y1R, .slice x2R LL.lives.length y2R, .slice x3R LL.tals.length y3R] 35)) (Nat.le_refl _))
              have N23 := hide (N22.out.below (Below.plus (Below.refl _ w22) (.cells #[.slice x1R LL.clock.length y1R, .slice x2R LL.lives.length y2R, .slice x3R LL.tals.length y3R] 35)) (Nat.le_refl _))
              have GN23 := hide (GN22.out.below (Below.plus (Below.refl _ w22) (.cells #[.slice x1R LL.clock.length y1R, .slice x2R LL.lives.length y2R, .slice x3R LL.tals.length y3R] 35)) (Nat.le_refl _))
              have Q23 := hide (Q22.out.below (Below.plus (Below.refl _ w22) (.cells #[.slice x1R LL.clock.length y1R, .slice x2R LL.lives.length y2R, .slice x3R LL.tals.length y3R] 35)) (Nat.le_refl _))
              have GQ23 := hide (GQ22.out.below (Below.plus (Below.refl _ w22) (.cells #[.slice x1R LL.clock.length y1R, .slice x2R LL.lives.length y2R, .slice x3R LL.tals.length y3R] 35)) (Nat.le_refl _))
              have R23 := hide (R22.out.below (Below.plus (Below.refl _ w22) (.cells #[.slice x1R LL.clock.length y1R, .slice x2R LL.lives.length y2R, .slice x3R LL.tals.length y3R] 35)) (Nat.le_refl _))
              have GR23 := hide (Box.new w22 [.slice x1R LL.clock.length y1R, .slice x2R LL.lives.length y2R, .slice x3R LL.tals.length y3R] 35)
              clear HB22 X22 Y22 V22 GX22 GY22 GV22 N22 GN22 Q22 GQ22 R22
              have cGX0 := GX23.out.get 0 rfl
              have cGX1 := GX23.out.get 1 rfl
              have cGX2 := GX23.out.get 2 rfl
              have cGQ0 := GQ23.out.get 0 rfl
              have cGQ1 := GQ23.out.get 1 rfl
              have cGQ2 := GQ23.out.get 2 rfl
              go_wp2_with fail
              refine (join_state _ _ XA JB _ X23.out.st Q23.out.st).mono ?_
              rintro e w24 ⟨vS, rfl, hS, hb⟩
              have HB24 := hide (below_step HB23.out hb)
              have X24 := hide (X23.out.below hb (Nat.le_refl _))
              have Y24 := hide (Y23.out.below hb (Nat.le_refl _))
              have V24 := hide (V23.out.below hb (Nat.le_refl _))
              have GX24 := hide (GX23.out.below hb (Nat.le_refl _))
              have GY24 := hide (GY23.out.below hb (Nat.le_refl _))
              have GV24 := hide (GV23.out.below hb (Nat.le_refl _))
              have N24 := hide (N23.out.below hb (Nat.le_refl _))
              have GN24 := hide (GN23.out.below hb (Nat.le_refl _))
              have Q24 := hide (Q23.out.below hb (Nat.le_refl _))
              have GQ24 := hide (GQ23.out.below hb (Nat.le_refl _))
              have R24 := hide (R23.out.below hb (Nat.le_refl _))
              have GR24 := hide (GR23.out.below hb (Nat.le_refl _))
              have S24 := hide hS
              clear HB23 hb X23 Y23 V23 GX23 GY23 GV23 N23 GN23 Q23 GQ23 R23 GR23
              rw [HM11.out]
              rw [HM12.out] at S24
              clear cGX0 cGX1 cGX2
              clear cGQ0 cGQ1 cGQ2
              obtain ⟨x1S, y1S, x2S, y2S, x3S, y3S, hvS⟩ := S24.out.formW
              subst hvS
              clear hS
              have HB25 := hide (below_step HB24.out (Below.plus (Below.refl _ w24) (.cells #[.slice x1S LL.clock.length y1S, .slice x2S LL.lives.length y2S, .slice x3S LL.tals.length y3S] 35)))
              have X25 := hide (X24.out.below (Below.plus (Below.refl _ w24) (.cells #[.slice x1S LL.clock.length y1S, .slice x2S LL.lives.length y2S, .slice x3S LL.tals.length y3S] 35)) (Nat.le_refl _))
              have Y25 := hide (Y24.out.below (Below.plus (Below.refl _ w24) (.cells #[.slice x1S LL.clock.length y1S, .slice x2S LL.lives.length y2S, .slice x3S LL.tals.length y3S] 35)) (Nat.le_refl _))
              have V25 := hide (V24.out.below (Below.plus (Below.refl _ w24) (.cells #[.slice x1S LL.clock.length y1S, .slice x2S LL.lives.length y2S, .slice x3S LL.tals.length y3S] 35)) (Nat.le_refl _))
              have GX25 := hide (GX24.out.below (Below.plus (Below.refl _ w24) (.cells #[.slice x1S LL.clock.length y1S, .slice x2S LL.lives.length y2S, .slice x3S LL.tals.length y3S] 35)) (Nat.le_refl _))
              have GY25 := hide (GY24.out.below (Below.plus (Below.refl _ w24) (.cells #[.slice x1S LL.clock.length y1S, .slice x2S LL.lives.length y2S, .slice x3S LL.tals.length y3S] 35)) (Nat.le_refl _))
              have GV25 := hide (GV24.out.below (Below.plus (Below.refl _ w24) (.cells #[.slice x1S LL.clock.length y1S, .slice x2S LL.lives.length y2S, .slice x3S LL.tals.length y3S] 35)) (Nat.le_refl _))
              have N25 := hide (N24.out.below (Below.plus (Below.refl _ w24) (.cells #[.slice x1S LL.clock.length y1S, .slice x2S LL.lives.length y2S, .slice x3S LL.tals.length y3S] 35)) (Nat.le_refl _))
              have GN25 := hide (GN24.out.below (Below.plus (Below.refl _ w24) (.cells #[.slice x1S LL.clock.length y1S, .slice x2S LL.lives.length y2S, .slice x3S LL.tals.length y3S] 35)) (Nat.le_refl _))
              have Q25 := hide (Q24.out.below (Below.plus (Below.refl _ w24) (.cells #[.slice x1S LL.clock.length y1S, .slice x2S LL.lives.length y2S, .slice x3S LL.tals.length y3S] 35)) (Nat.le_refl _))
              have GQ25 := hide (GQ24.out.below (Below.plus (Below.refl _ w24) (.cells #[.slice x1S LL.clock.length y1S, .slice x2S LL.lives.length y2S, .slice x3S LL.tals.length y3S] 35)) (Nat.le_refl _))
              have R25 := hide (R24.out.below (Below.plus (Below.refl _ w24) (.cells #[.slice x1S LL.clock.length y1S, .slice x2S LL.lives.length y2S, .slice x3S LL.tals.length y3S] 35)) (Nat.le_refl _))
              have GR25 := hide (GR24.out.below (Below.plus (Below.refl _ w24) (.cells #[.slice x1S LL.clock.length y1S, .slice x2S LL.lives.length y2S, .slice x3S LL.tals.length y3S] 35)) (Nat.le_refl _))
              have S25 := hide (S24.out.below (Below.plus (Below.refl _ w24) (.cells #[.slice x1S LL.clock.length y1S, .slice x2S LL.lives.length y2S, .slice x3S LL.tals.length y3S] 35)) (Nat.le_refl _))
              have GS25 := hide (Box.new w24 [.slice x1S LL.clock.length y1S, .slice x2S LL.lives.length y2S, .slice x3S LL.tals.length y3S] 35)
              clear HB24 X24 Y24 V24 GX24 GY24 GV24 N24 GN24 Q24 GQ24 R24 GR24 S24
              have cGR0 := GR25.out.get 0 rfl
              have cGR1 := GR25.out.get 1 rfl
              have cGR2 := GR25.out.get 2 rfl
              have cGS0 := GS25.out.get 0 rfl
              have cGS1 := GS25.out.get 1 rfl
              have cGS2 := GS25.out.get 2 rfl
              go_wp2_with fail
              refine (same_st _ _ LL _ R25.out.st S25.out.st).mono ?_
              rintro e w26 ⟨rfl, hb⟩
              have HB26 := hide (below_step HB25.out hb)
              have X26 := hide (X25.out.below hb (Nat.le_refl _))
              have Y26 := hide (Y25.out.below hb (Nat.le_refl _))
              have V26 := hide (V25.out.below hb (Nat.le_refl _))
              have GX26 := hide (GX25.out.below hb (Nat.le_refl _))
              have GY26 := hide (GY25.out.below hb (Nat.le_refl _))
              have GV26 := hide (GV25.out.below hb (Nat.le_refl _))
              have N26 := hide (N25.out.below hb (Nat.le_refl _))
              have GN26 := hide (GN25.out.below hb (Nat.le_refl _))
              have Q26 := hide (Q25.out.below hb (Nat.le_refl _))
              have GQ26 := hide (GQ25.out.below hb (Nat.le_refl _))
              have R26 := hide (R25.out.below hb (Nat.le_refl _))
              have GR26 := hide (GR25.out.below hb (Nat.le_refl _))
              have S26 := hide (S25.out.below hb (Nat.le_refl _))
              have GS26 := hide (GS25.out.below hb (Nat.le_refl _))
              clear HB25 hb X25 Y25 V25 GX25 GY25 GV25 N25 GN25 Q25 GQ25 R25 GR25 S25 GS25
              go_wp2_with fail
              go_ret
              exact ⟨rfl, HB26.out⟩
      · have h3' : (eC != 0) = true := by simp [h3]
        clear h3
        have HB3 := hide (below_step HB2.out (Below.plus (Below.refl _ w2) (.cells cs 3)))
        have L3 := hide (L2.out.below (Below.plus (Below.refl _ w2) (.cells cs 3)) (Nat.le_refl _))
        have A3 := hide (A2.out.below (Below.plus (Below.refl _ w2) (.cells cs 3)) (Nat.le_refl _))
        have B3 := hide (B2.out.below (Below.plus (Below.refl _ w2) (.cells cs 3)) (Nat.le_refl _))
        have C3 := hide (C2.out.below (Below.plus (Below.refl _ w2) (.cells cs 3)) (Nat.le_refl _))
        have Z3 := hide ((HOZ.out w2).row)
        clear HB2 L2 A2 B2 C2
        go_wp2_with fail
        refine (clock_log _ _ (zeroC k) l k _ Z3.out L3.out).mono ?_
        rintro e w4 ⟨vD, rfl, hD, hb⟩
        have HB4 := hide (below_step HB3.out hb)
        have L4 := hide (L3.out.below hb (Nat.le_refl _))
        have A4 := hide (A3.out.below hb (Nat.le_refl _))
        have B4 := hide (B3.out.below hb (Nat.le_refl _))
        have C4 := hide (C3.out.below hb (Nat.le_refl _))
        have Z4 := hide (Z3.out.below hb (Nat.le_refl _))
        have D4 := hide hD
        clear HB3 hb L3 A3 B3 C3 Z3
        rw [HeC.out, HaC.out]
        clear Z4
        clear D4
        obtain ⟨ac, cc, hvc, -⟩ := id hD
        subst hvc
        clear hD
        have HB5 := hide (below_step HB4.out (Below.plus (Below.refl _ w4) (.cells #[.int .i64 eC, .int .i64 aC] 29)))
        have L5 := hide (L4.out.below (Below.plus (Below.refl _ w4) (.cells #[.int .i64 eC, .int .i64 aC] 29)) (Nat.le_refl _))
        have A5 := hide (A4.out.below (Below.plus (Below.refl _ w4) (.cells #[.int .i64 eC, .int .i64 aC] 29)) (Nat.le_refl _))
        have B5 := hide (B4.out.below (Below.plus (Below.refl _ w4) (.cells #[.int .i64 eC, .int .i64 aC] 29)) (Nat.le_refl _))
        have C5 := hide (C4.out.below (Below.plus (Below.refl _ w4) (.cells #[.int .i64 eC, .int .i64 aC] 29)) (Nat.le_refl _))
        have F5 := hide (Box.new w4 [.int .i64 eC, .int .i64 aC] 29)
        clear HB4 L4 A4 B4 C4
        have cF0 := F5.out.get 0 rfl
        have cF1 := F5.out.get 1 rfl
        go_wp2_with fail
        go_ret
        exact ⟨rfl, HB5.out⟩
end Go.Proofs.YtkhhifkihpfdhaaGreat
