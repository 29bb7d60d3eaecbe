/- The statement UpdateTurns of the second chapter, as a walk: it answers true for every update, every number and any bytes. -/
import Derived.Test.YtiomdleoafakkaaUPure
import Derived.Test.YtiomdleoafakkaaUTells
namespace Go.Proofs.Ytiomdleoafakkaa
open Go.RowKit

/-- The update that the closed fact speaks of. -/
def aliveU : Upd := ⟨1, [3, 4], 1, 5, -6⟩
theorem aliveU_right : wrongU aliveU 2 = 0 := by decide

set_option maxRecDepth 100000 in
set_option maxHeartbeats 1000000 in
theorem ualive_law (w : World) : Calls Try.prog 34 #[] w fun e w' => e = .returned (.bool true) ∧ Below w.heap.size w w' := by
  have hrow : Row (w.alloc (.cells #[.int .i64 3, .int .i64 4] 3)) (.slice (some ⟨w.heap.size, 0, none⟩) 2 2) [3, 4] := row_box (Box.new w [.int .i64 3, .int .i64 4] 3) rfl (by omega)
  have U0 : Hid (IsUpd (w.alloc (.cells #[.int .i64 3, .int .i64 4] 3)) (.agg #[.int .i64 1, .slice (some ⟨w.heap.size, 0, none⟩) 2 2, .int .i64 1, .int .i64 5, .int .i64 (-6)]) aliveU) := ⟨_, rfl, hrow⟩
  have HB0 := hide (Below.plus (Below.refl w.heap.size w) (.cells #[.int .i64 3, .int .i64 4] 3))
  clear hrow
  have HO : Hid (outB aliveU 2 = bytesU aliveU 2) := by unfold Hid outB; rw [if_pos aliveU_right]
  obtain ⟨hpe, hpu, hpn⟩ := parse_bytes aliveU_right
  have hBL : (bytesU aliveU 2).length = 10 := rfl
  obtain ⟨B, hB⟩ : ∃ B, B = bytesU aliveU 2 := ⟨_, rfl⟩
  rw [← hB] at HO hpe hpu hpn hBL
  have HPE := hide hpe
  have HPU := hide hpu
  have HPN := hide hpn
  have HBL := hide hBL
  clear hB hpe hpu hpn hBL
  go_enter Try.func34, Try.ntmps34
  go_wp2_with fail
  refine (bytes_upd _ aliveU 2 _ U0.out).mono ?_
  rintro e w1 ⟨vY, rfl, hY, hb⟩
  have HB1 := hide (below_step HB0.out hb)
  have U1 := hide (U0.out.below hb (Nat.le_refl _))
  have Y1 := hide hY
  clear HB0 hb U0
  rw [aliveU_right]
  rw [HO.out] at hY Y1
  go_wp2_with fail
  refine (parse_upd _ B _ Y1.out).mono ?_
  rintro e w2 ⟨vP, rfl, hP, hb⟩
  have HB2 := hide (below_step HB1.out hb)
  have U2 := hide (U1.out.below hb (Nat.le_refl _))
  have Y2 := hide (Y1.out.below hb (Nat.le_refl _))
  have P2 := hide hP
  clear HB1 hb U1 Y1
  rw [HPE.out, HPN.out]
  rw [HPU.out] at hP P2
  obtain ⟨aY, capY, hvY, -, -, -, -⟩ := Y2.out
  rw [HBL.out] at hvY
  subst hvY
  obtain ⟨svP, rfl, hsP⟩ := hP
  obtain ⟨aP, capP, rfl, -, -, -⟩ := hsP
  simp only [aliveU] at P2
  clear Y2 U2
  have HB3 := hide (below_step HB2.out (Below.plus (Below.refl _ w2) (.cells #[.int .i64 1, .slice aP 2 capP, .int .i64 1, .int .i64 5, .int .i64 (-6)] 38)))
  have P3 := hide (P2.out.below (Below.plus (Below.refl _ w2) (.cells #[.int .i64 1, .slice aP 2 capP, .int .i64 1, .int .i64 5, .int .i64 (-6)] 38)) (Nat.le_refl _))
  have V3 := hide (Box.new w2 [.int .i64 1, .slice aP 2 capP, .int .i64 1, .int .i64 5, .int .i64 (-6)] 38)
  clear HB2 P2
  go_wp2_with fail
  refine (seq_upd _ aliveU 1 4 _ P3.out rfl (by decide) rfl (by omega) (by omega)).mono ?_
  rintro e w9 ⟨rfl, hb9⟩
  have HB9 := hide (below_step HB3.out hb9)
  go_wp2
  go_ret
  exact ⟨rfl, HB9.out⟩

set_option maxRecDepth 100000 in
set_option maxHeartbeats 2000000 in
theorem uturns_law (v bv : Value) (u : Upd) (n : Int) (bs : List Int) (w : World) (h : IsUpd w v u) (hbv : RowB w bv bs) :
    Calls Try.prog 8 #[v, .int .i64 n, bv] w fun e w' => e = .returned (.bool true) ∧ Below w.heap.size w w' := by
  have hrange : ∀ b ∈ bs, 0 ≤ b ∧ b ≤ 255 := by obtain ⟨_, _, _, _, _, h0, _⟩ := hbv; exact h0
  have hin := h
  obtain ⟨sv, rfl, hs⟩ := h
  obtain ⟨a, cap, rfl, -, -, -⟩ := id hs
  have U0 := hide (hin.below (Below.plus (Below.refl w.heap.size w) (.cells #[.int .i64 u.author, .slice a u.seen.length cap, .int .i64 u.kind, .int .i64 u.key, .int .i64 u.item] 38)) (Nat.le_refl _))
  have B0 := hide (hbv.alloc (.cells #[.int .i64 u.author, .slice a u.seen.length cap, .int .i64 u.kind, .int .i64 u.key, .int .i64 u.item] 38))
  have X0 := hide (Box.new w [.int .i64 u.author, .slice a u.seen.length cap, .int .i64 u.kind, .int .i64 u.key, .int .i64 u.item] 38)
  have HB0 := hide (Below.plus (Below.refl w.heap.size w) (.cells #[.int .i64 u.author, .slice a u.seen.length cap, .int .i64 u.kind, .int .i64 u.key, .int .i64 u.item] 38))
  clear hin hs hbv
  obtain ⟨r, HR⟩ : ∃ r, Hid (wrongU u n = r) := ⟨_, rfl⟩
  obtain ⟨E, HE⟩ : ∃ r, Hid (parseE bs = r) := ⟨_, rfl⟩
  by_cases hr : r = 0
  · subst hr
    have HO : Hid (outB u n = bytesU u n) := by unfold Hid outB; rw [if_pos HR.out]
    obtain ⟨hpe, hpu, hpn⟩ := parse_bytes HR.out
    have HPE := hide hpe
    have HPU := hide hpu
    have HPN := hide hpn
    clear hpe hpu hpn
    have hnn : (n != n) = false := by simp
    by_cases hE : E = 0
    · subst hE
      obtain ⟨hw2, hb2⟩ := bytes_parse hrange HE.out
      have HO2 : Hid (outB (parseU bs) (parseN bs) = bs) := by unfold Hid outB; rw [if_pos hw2, hb2]
      have HW2 := hide hw2
      clear hw2 hb2 hrange
      go_enter Try.func8, Try.ntmps8
      go_wp2_with fail
      refine (ualive_law _).mono ?_
      rintro e w1 ⟨rfl, hb⟩
      have HB1 := hide (below_step HB0.out hb)
      have U1 := hide (U0.out.below hb (Nat.le_refl _))
      have B1 := hide (B0.out.below hb (Nat.le_refl _))
      have X1 := hide (X0.out.below hb (Nat.le_refl _))
      clear HB0 hb U0 B0 X0
      have cX0 := X1.out.get 0 rfl
      have cX1 := X1.out.get 1 rfl
      have cX2 := X1.out.get 2 rfl
      have cX3 := X1.out.get 3 rfl
      have cX4 := X1.out.get 4 rfl
      go_wp2_with fail
      refine (bytes_upd _ u n _ U1.out).mono ?_
      rintro e w2 ⟨vY, rfl, hY, hb⟩
      have HB2 := hide (below_step HB1.out hb)
      have U2 := hide (U1.out.below hb (Nat.le_refl _))
      have B2 := hide (B1.out.below hb (Nat.le_refl _))
      have X2 := hide (X1.out.below hb (Nat.le_refl _))
      have Y2 := hide hY
      clear HB1 hb U1 B1 X1
      clear cX0 cX1 cX2 cX3 cX4
      rw [HR.out]
      rw [HO.out] at hY Y2
      go_wp2_with fail
      refine (parse_upd _ (bytesU u n) _ Y2.out).mono ?_
      rintro e w3 ⟨vP, rfl, hP, hb⟩
      have HB3 := hide (below_step HB2.out hb)
      have U3 := hide (U2.out.below hb (Nat.le_refl _))
      have B3 := hide (B2.out.below hb (Nat.le_refl _))
      have X3 := hide (X2.out.below hb (Nat.le_refl _))
      have Y3 := hide (Y2.out.below hb (Nat.le_refl _))
      have P3 := hide hP
      clear HB2 hb U2 B2 X2 Y2
      rw [HPE.out, HPN.out]
      rw [HPU.out] at hP P3
      obtain ⟨svP, rfl, hsP⟩ := hP
      obtain ⟨aP, capP, rfl, -, -, -⟩ := hsP
      clear Y3
      have HB4 := hide (below_step HB3.out (Below.plus (Below.refl _ w3) (.cells #[.int .i64 u.author, .slice aP u.seen.length capP, .int .i64 u.kind, .int .i64 u.key, .int .i64 u.item] 38)))
      have U4 := hide (U3.out.below (Below.plus (Below.refl _ w3) (.cells #[.int .i64 u.author, .slice aP u.seen.length capP, .int .i64 u.kind, .int .i64 u.key, .int .i64 u.item] 38)) (Nat.le_refl _))
      have B4 := hide (B3.out.below (Below.plus (Below.refl _ w3) (.cells #[.int .i64 u.author, .slice aP u.seen.length capP, .int .i64 u.kind, .int .i64 u.key, .int .i64 u.item] 38)) (Nat.le_refl _))
      have X4 := hide (X3.out.below (Below.plus (Below.refl _ w3) (.cells #[.int .i64 u.author, .slice aP u.seen.length capP, .int .i64 u.kind, .int .i64 u.key, .int .i64 u.item] 38)) (Nat.le_refl _))
      have P4 := hide (P3.out.below (Below.plus (Below.refl _ w3) (.cells #[.int .i64 u.author, .slice aP u.seen.length capP, .int .i64 u.kind, .int .i64 u.key, .int .i64 u.item] 38)) (Nat.le_refl _))
      have V4 := hide (Box.new w3 [.int .i64 u.author, .slice aP u.seen.length capP, .int .i64 u.kind, .int .i64 u.key, .int .i64 u.item] 38)
      clear HB3 U3 B3 X3 P3
      have cX0 := X4.out.get 0 rfl
      have cX1 := X4.out.get 1 rfl
      have cX2 := X4.out.get 2 rfl
      have cX3 := X4.out.get 3 rfl
      have cX4 := X4.out.get 4 rfl
      have cV0 := V4.out.get 0 rfl
      have cV1 := V4.out.get 1 rfl
      have cV2 := V4.out.get 2 rfl
      have cV3 := V4.out.get 3 rfl
      have cV4 := V4.out.get 4 rfl
      go_wp2_with fail
      refine (sameUpdate_ref _ _ u u _ P4.out U4.out).mono ?_
      rintro e w5 ⟨rfl, hb⟩
      have HB5 := hide (below_step HB4.out hb)
      have U5 := hide (U4.out.below hb (Nat.le_refl _))
      have B5 := hide (B4.out.below hb (Nat.le_refl _))
      have X5 := hide (X4.out.below hb (Nat.le_refl _))
      have P5 := hide (P4.out.below hb (Nat.le_refl _))
      have V5 := hide (V4.out.below hb (Nat.le_refl _))
      clear HB4 hb U4 B4 X4 P4 V4
      clear cX0 cX1 cX2 cX3 cX4
      clear cV0 cV1 cV2 cV3 cV4
      rw [sameU_self]
      clear P5 V5
      go_wp2_with fail
      refine (parse_upd _ bs _ B5.out).mono ?_
      rintro e w6 ⟨vQ, rfl, hQ, hb⟩
      have HB6 := hide (below_step HB5.out hb)
      have U6 := hide (U5.out.below hb (Nat.le_refl _))
      have B6 := hide (B5.out.below hb (Nat.le_refl _))
      have X6 := hide (X5.out.below hb (Nat.le_refl _))
      have Q6 := hide hQ
      clear HB5 hb U5 B5 X5
      rw [HE.out]
      obtain ⟨svQ, rfl, hsQ⟩ := hQ
      obtain ⟨aQ, capQ, rfl, -, -, -⟩ := hsQ
      have HB7 := hide (below_step HB6.out (Below.plus (Below.refl _ w6) (.cells #[.int .i64 (parseU bs).author, .slice aQ (parseU bs).seen.length capQ, .int .i64 (parseU bs).kind, .int .i64 (parseU bs).key, .int .i64 (parseU bs).item] 38)))
      have U7 := hide (U6.out.below (Below.plus (Below.refl _ w6) (.cells #[.int .i64 (parseU bs).author, .slice aQ (parseU bs).seen.length capQ, .int .i64 (parseU bs).kind, .int .i64 (parseU bs).key, .int .i64 (parseU bs).item] 38)) (Nat.le_refl _))
      have B7 := hide (B6.out.below (Below.plus (Below.refl _ w6) (.cells #[.int .i64 (parseU bs).author, .slice aQ (parseU bs).seen.length capQ, .int .i64 (parseU bs).kind, .int .i64 (parseU bs).key, .int .i64 (parseU bs).item] 38)) (Nat.le_refl _))
      have X7 := hide (X6.out.below (Below.plus (Below.refl _ w6) (.cells #[.int .i64 (parseU bs).author, .slice aQ (parseU bs).seen.length capQ, .int .i64 (parseU bs).kind, .int .i64 (parseU bs).key, .int .i64 (parseU bs).item] 38)) (Nat.le_refl _))
      have Q7 := hide (Q6.out.below (Below.plus (Below.refl _ w6) (.cells #[.int .i64 (parseU bs).author, .slice aQ (parseU bs).seen.length capQ, .int .i64 (parseU bs).kind, .int .i64 (parseU bs).key, .int .i64 (parseU bs).item] 38)) (Nat.le_refl _))
      have R7 := hide (Box.new w6 [.int .i64 (parseU bs).author, .slice aQ (parseU bs).seen.length capQ, .int .i64 (parseU bs).kind, .int .i64 (parseU bs).key, .int .i64 (parseU bs).item] 38)
      clear HB6 U6 B6 X6 Q6
      have cR0 := R7.out.get 0 rfl
      have cR1 := R7.out.get 1 rfl
      have cR2 := R7.out.get 2 rfl
      have cR3 := R7.out.get 3 rfl
      have cR4 := R7.out.get 4 rfl
      go_wp2_with fail
      refine (bytes_upd _ (parseU bs) (parseN bs) _ Q7.out).mono ?_
      rintro e w8 ⟨vZ, rfl, hZ, hb⟩
      have HB8 := hide (below_step HB7.out hb)
      have U8 := hide (U7.out.below hb (Nat.le_refl _))
      have B8 := hide (B7.out.below hb (Nat.le_refl _))
      have X8 := hide (X7.out.below hb (Nat.le_refl _))
      have Q8 := hide (Q7.out.below hb (Nat.le_refl _))
      have R8 := hide (R7.out.below hb (Nat.le_refl _))
      have Z8 := hide hZ
      clear HB7 hb U7 B7 X7 Q7 R7
      clear cR0 cR1 cR2 cR3 cR4
      rw [HW2.out]
      rw [HO2.out] at hZ Z8
      have hy := Z8.out.str
      have hz := B8.out.str
      go_wp2
      go_ret
      exact ⟨by simp, HB8.out⟩
    · have HZ : Hid (parseU bs = zeroUpd) := by unfold Hid parseU; rw [if_neg (by rw [HE.out]; exact hE)]
      have HZN : Hid (parseN bs = 0) := by unfold Hid parseN; rw [if_neg (by rw [HE.out]; exact hE)]
      have hE' : (E != 0) = true := by simp [hE]
      have hE2 : decide (E = 0) = false := by simp [hE]
      clear hrange
      go_enter Try.func8, Try.ntmps8
      go_wp2_with fail
      refine (ualive_law _).mono ?_
      rintro e w1 ⟨rfl, hb⟩
      have HB1 := hide (below_step HB0.out hb)
      have U1 := hide (U0.out.below hb (Nat.le_refl _))
      have B1 := hide (B0.out.below hb (Nat.le_refl _))
      have X1 := hide (X0.out.below hb (Nat.le_refl _))
      clear HB0 hb U0 B0 X0
      have cX0 := X1.out.get 0 rfl
      have cX1 := X1.out.get 1 rfl
      have cX2 := X1.out.get 2 rfl
      have cX3 := X1.out.get 3 rfl
      have cX4 := X1.out.get 4 rfl
      go_wp2_with fail
      refine (bytes_upd _ u n _ U1.out).mono ?_
      rintro e w2 ⟨vY, rfl, hY, hb⟩
      have HB2 := hide (below_step HB1.out hb)
      have U2 := hide (U1.out.below hb (Nat.le_refl _))
      have B2 := hide (B1.out.below hb (Nat.le_refl _))
      have X2 := hide (X1.out.below hb (Nat.le_refl _))
      have Y2 := hide hY
      clear HB1 hb U1 B1 X1
      clear cX0 cX1 cX2 cX3 cX4
      rw [HR.out]
      rw [HO.out] at hY Y2
      go_wp2_with fail
      refine (parse_upd _ (bytesU u n) _ Y2.out).mono ?_
      rintro e w3 ⟨vP, rfl, hP, hb⟩
      have HB3 := hide (below_step HB2.out hb)
      have U3 := hide (U2.out.below hb (Nat.le_refl _))
      have B3 := hide (B2.out.below hb (Nat.le_refl _))
      have X3 := hide (X2.out.below hb (Nat.le_refl _))
      have Y3 := hide (Y2.out.below hb (Nat.le_refl _))
      have P3 := hide hP
      clear HB2 hb U2 B2 X2 Y2
      rw [HPE.out, HPN.out]
      rw [HPU.out] at hP P3
      obtain ⟨svP, rfl, hsP⟩ := hP
      obtain ⟨aP, capP, rfl, -, -, -⟩ := hsP
      clear Y3
      have HB4 := hide (below_step HB3.out (Below.plus (Below.refl _ w3) (.cells #[.int .i64 u.author, .slice aP u.seen.length capP, .int .i64 u.kind, .int .i64 u.key, .int .i64 u.item] 38)))
      have U4 := hide (U3.out.below (Below.plus (Below.refl _ w3) (.cells #[.int .i64 u.author, .slice aP u.seen.length capP, .int .i64 u.kind, .int .i64 u.key, .int .i64 u.item] 38)) (Nat.le_refl _))
      have B4 := hide (B3.out.below (Below.plus (Below.refl _ w3) (.cells #[.int .i64 u.author, .slice aP u.seen.length capP, .int .i64 u.kind, .int .i64 u.key, .int .i64 u.item] 38)) (Nat.le_refl _))
      have X4 := hide (X3.out.below (Below.plus (Below.refl _ w3) (.cells #[.int .i64 u.author, .slice aP u.seen.length capP, .int .i64 u.kind, .int .i64 u.key, .int .i64 u.item] 38)) (Nat.le_refl _))
      have P4 := hide (P3.out.below (Below.plus (Below.refl _ w3) (.cells #[.int .i64 u.author, .slice aP u.seen.length capP, .int .i64 u.kind, .int .i64 u.key, .int .i64 u.item] 38)) (Nat.le_refl _))
      have V4 := hide (Box.new w3 [.int .i64 u.author, .slice aP u.seen.length capP, .int .i64 u.kind, .int .i64 u.key, .int .i64 u.item] 38)
      clear HB3 U3 B3 X3 P3
      have cX0 := X4.out.get 0 rfl
      have cX1 := X4.out.get 1 rfl
      have cX2 := X4.out.get 2 rfl
      have cX3 := X4.out.get 3 rfl
      have cX4 := X4.out.get 4 rfl
      have cV0 := V4.out.get 0 rfl
      have cV1 := V4.out.get 1 rfl
      have cV2 := V4.out.get 2 rfl
      have cV3 := V4.out.get 3 rfl
      have cV4 := V4.out.get 4 rfl
      go_wp2_with fail
      refine (sameUpdate_ref _ _ u u _ P4.out U4.out).mono ?_
      rintro e w5 ⟨rfl, hb⟩
      have HB5 := hide (below_step HB4.out hb)
      have U5 := hide (U4.out.below hb (Nat.le_refl _))
      have B5 := hide (B4.out.below hb (Nat.le_refl _))
      have X5 := hide (X4.out.below hb (Nat.le_refl _))
      have P5 := hide (P4.out.below hb (Nat.le_refl _))
      have V5 := hide (V4.out.below hb (Nat.le_refl _))
      clear HB4 hb U4 B4 X4 P4 V4
      clear cX0 cX1 cX2 cX3 cX4
      clear cV0 cV1 cV2 cV3 cV4
      rw [sameU_self]
      clear P5 V5
      go_wp2_with fail
      refine (parse_upd _ bs _ B5.out).mono ?_
      rintro e w6 ⟨vQ, rfl, hQ, hb⟩
      have HB6 := hide (below_step HB5.out hb)
      have U6 := hide (U5.out.below hb (Nat.le_refl _))
      have B6 := hide (B5.out.below hb (Nat.le_refl _))
      have X6 := hide (X5.out.below hb (Nat.le_refl _))
      have Q6 := hide hQ
      clear HB5 hb U5 B5 X5
      rw [HE.out]
      rw [HZN.out]
      rw [HZ.out] at hQ Q6
      obtain ⟨svQ, rfl, hsQ⟩ := hQ
      obtain ⟨aQ, capQ, rfl, -, -, -⟩ := hsQ
      simp only [zeroUpd] at Q6
      have HB7 := hide (below_step HB6.out (Below.plus (Below.refl _ w6) (.cells #[.int .i64 0, .slice aQ 0 capQ, .int .i64 0, .int .i64 0, .int .i64 0] 38)))
      have U7 := hide (U6.out.below (Below.plus (Below.refl _ w6) (.cells #[.int .i64 0, .slice aQ 0 capQ, .int .i64 0, .int .i64 0, .int .i64 0] 38)) (Nat.le_refl _))
      have B7 := hide (B6.out.below (Below.plus (Below.refl _ w6) (.cells #[.int .i64 0, .slice aQ 0 capQ, .int .i64 0, .int .i64 0, .int .i64 0] 38)) (Nat.le_refl _))
      have X7 := hide (X6.out.below (Below.plus (Below.refl _ w6) (.cells #[.int .i64 0, .slice aQ 0 capQ, .int .i64 0, .int .i64 0, .int .i64 0] 38)) (Nat.le_refl _))
      have Q7 := hide (Q6.out.below (Below.plus (Below.refl _ w6) (.cells #[.int .i64 0, .slice aQ 0 capQ, .int .i64 0, .int .i64 0, .int .i64 0] 38)) (Nat.le_refl _))
      have R7 := hide (Box.new w6 [.int .i64 0, .slice aQ 0 capQ, .int .i64 0, .int .i64 0, .int .i64 0] 38)
      clear HB6 U6 B6 X6 Q6
      have cR0 := R7.out.get 0 rfl
      have cR1 := R7.out.get 1 rfl
      have cR2 := R7.out.get 2 rfl
      have cR3 := R7.out.get 3 rfl
      have cR4 := R7.out.get 4 rfl
      go_wp2_with fail
      refine (sameUpdate_ref _ _ zeroUpd zeroUpd _ Q7.out (isUpd_zero _)).mono ?_
      rintro e w8 ⟨rfl, hb⟩
      have HB8 := hide (below_step HB7.out hb)
      have U8 := hide (U7.out.below hb (Nat.le_refl _))
      have B8 := hide (B7.out.below hb (Nat.le_refl _))
      have X8 := hide (X7.out.below hb (Nat.le_refl _))
      have Q8 := hide (Q7.out.below hb (Nat.le_refl _))
      have R8 := hide (R7.out.below hb (Nat.le_refl _))
      clear HB7 hb U7 B7 X7 Q7 R7
      clear cR0 cR1 cR2 cR3 cR4
      rw [sameU_self]
      go_wp2
      go_ret
      exact ⟨rfl, HB8.out⟩
  · have hr' : (r == 0) = false := by simp [hr]
    have hr2 : decide (r = 0) = false := by simp [hr]
    by_cases hE : E = 0
    · subst hE
      obtain ⟨hw2, hb2⟩ := bytes_parse hrange HE.out
      have HO2 : Hid (outB (parseU bs) (parseN bs) = bs) := by unfold Hid outB; rw [if_pos hw2, hb2]
      have HW2 := hide hw2
      clear hw2 hb2 hrange
      go_enter Try.func8, Try.ntmps8
      go_wp2_with fail
      refine (ualive_law _).mono ?_
      rintro e w1 ⟨rfl, hb⟩
      have HB1 := hide (below_step HB0.out hb)
      have U1 := hide (U0.out.below hb (Nat.le_refl _))
      have B1 := hide (B0.out.below hb (Nat.le_refl _))
      have X1 := hide (X0.out.below hb (Nat.le_refl _))
      clear HB0 hb U0 B0 X0
      have cX0 := X1.out.get 0 rfl
      have cX1 := X1.out.get 1 rfl
      have cX2 := X1.out.get 2 rfl
      have cX3 := X1.out.get 3 rfl
      have cX4 := X1.out.get 4 rfl
      go_wp2_with fail
      refine (bytes_upd _ u n _ U1.out).mono ?_
      rintro e w2 ⟨vY, rfl, hY, hb⟩
      have HB2 := hide (below_step HB1.out hb)
      have U2 := hide (U1.out.below hb (Nat.le_refl _))
      have B2 := hide (B1.out.below hb (Nat.le_refl _))
      have X2 := hide (X1.out.below hb (Nat.le_refl _))
      have Y2 := hide hY
      clear HB1 hb U1 B1 X1
      clear cX0 cX1 cX2 cX3 cX4
      rw [HR.out]
      clear Y2
      go_wp2_with fail
      refine (parse_upd _ bs _ B2.out).mono ?_
      rintro e w3 ⟨vQ, rfl, hQ, hb⟩
      have HB3 := hide (below_step HB2.out hb)
      have U3 := hide (U2.out.below hb (Nat.le_refl _))
      have B3 := hide (B2.out.below hb (Nat.le_refl _))
      have X3 := hide (X2.out.below hb (Nat.le_refl _))
      have Q3 := hide hQ
      clear HB2 hb U2 B2 X2
      rw [HE.out]
      obtain ⟨svQ, rfl, hsQ⟩ := hQ
      obtain ⟨aQ, capQ, rfl, -, -, -⟩ := hsQ
      have HB4 := hide (below_step HB3.out (Below.plus (Below.refl _ w3) (.cells #[.int .i64 (parseU bs).author, .slice aQ (parseU bs).seen.length capQ, .int .i64 (parseU bs).kind, .int .i64 (parseU bs).key, .int .i64 (parseU bs).item] 38)))
      have U4 := hide (U3.out.below (Below.plus (Below.refl _ w3) (.cells #[.int .i64 (parseU bs).author, .slice aQ (parseU bs).seen.length capQ, .int .i64 (parseU bs).kind, .int .i64 (parseU bs).key, .int .i64 (parseU bs).item] 38)) (Nat.le_refl _))
      have B4 := hide (B3.out.below (Below.plus (Below.refl _ w3) (.cells #[.int .i64 (parseU bs).author, .slice aQ (parseU bs).seen.length capQ, .int .i64 (parseU bs).kind, .int .i64 (parseU bs).key, .int .i64 (parseU bs).item] 38)) (Nat.le_refl _))
      have X4 := hide (X3.out.below (Below.plus (Below.refl _ w3) (.cells #[.int .i64 (parseU bs).author, .slice aQ (parseU bs).seen.length capQ, .int .i64 (parseU bs).kind, .int .i64 (parseU bs).key, .int .i64 (parseU bs).item] 38)) (Nat.le_refl _))
      have Q4 := hide (Q3.out.below (Below.plus (Below.refl _ w3) (.cells #[.int .i64 (parseU bs).author, .slice aQ (parseU bs).seen.length capQ, .int .i64 (parseU bs).kind, .int .i64 (parseU bs).key, .int .i64 (parseU bs).item] 38)) (Nat.le_refl _))
      have R4 := hide (Box.new w3 [.int .i64 (parseU bs).author, .slice aQ (parseU bs).seen.length capQ, .int .i64 (parseU bs).kind, .int .i64 (parseU bs).key, .int .i64 (parseU bs).item] 38)
      clear HB3 U3 B3 X3 Q3
      have cR0 := R4.out.get 0 rfl
      have cR1 := R4.out.get 1 rfl
      have cR2 := R4.out.get 2 rfl
      have cR3 := R4.out.get 3 rfl
      have cR4 := R4.out.get 4 rfl
      go_wp2_with fail
      refine (bytes_upd _ (parseU bs) (parseN bs) _ Q4.out).mono ?_
      rintro e w5 ⟨vZ, rfl, hZ, hb⟩
      have HB5 := hide (below_step HB4.out hb)
      have U5 := hide (U4.out.below hb (Nat.le_refl _))
      have B5 := hide (B4.out.below hb (Nat.le_refl _))
      have X5 := hide (X4.out.below hb (Nat.le_refl _))
      have Q5 := hide (Q4.out.below hb (Nat.le_refl _))
      have R5 := hide (R4.out.below hb (Nat.le_refl _))
      have Z5 := hide hZ
      clear HB4 hb U4 B4 X4 Q4 R4
      clear cR0 cR1 cR2 cR3 cR4
      rw [HW2.out]
      rw [HO2.out] at hZ Z5
      have hy := Z5.out.str
      have hz := B5.out.str
      go_wp2
      go_ret
      exact ⟨by simp, HB5.out⟩
    · have HZ : Hid (parseU bs = zeroUpd) := by unfold Hid parseU; rw [if_neg (by rw [HE.out]; exact hE)]
      have HZN : Hid (parseN bs = 0) := by unfold Hid parseN; rw [if_neg (by rw [HE.out]; exact hE)]
      have hE' : (E != 0) = true := by simp [hE]
      have hE2 : decide (E = 0) = false := by simp [hE]
      clear hrange
      go_enter Try.func8, Try.ntmps8
      go_wp2_with fail
      refine (ualive_law _).mono ?_
      rintro e w1 ⟨rfl, hb⟩
      have HB1 := hide (below_step HB0.out hb)
      have U1 := hide (U0.out.below hb (Nat.le_refl _))
      have B1 := hide (B0.out.below hb (Nat.le_refl _))
      have X1 := hide (X0.out.below hb (Nat.le_refl _))
      clear HB0 hb U0 B0 X0
      have cX0 := X1.out.get 0 rfl
      have cX1 := X1.out.get 1 rfl
      have cX2 := X1.out.get 2 rfl
      have cX3 := X1.out.get 3 rfl
      have cX4 := X1.out.get 4 rfl
      go_wp2_with fail
      refine (bytes_upd _ u n _ U1.out).mono ?_
      rintro e w2 ⟨vY, rfl, hY, hb⟩
      have HB2 := hide (below_step HB1.out hb)
      have U2 := hide (U1.out.below hb (Nat.le_refl _))
      have B2 := hide (B1.out.below hb (Nat.le_refl _))
      have X2 := hide (X1.out.below hb (Nat.le_refl _))
      have Y2 := hide hY
      clear HB1 hb U1 B1 X1
      clear cX0 cX1 cX2 cX3 cX4
      rw [HR.out]
      clear Y2
      go_wp2_with fail
      refine (parse_upd _ bs _ B2.out).mono ?_
      rintro e w3 ⟨vQ, rfl, hQ, hb⟩
      have HB3 := hide (below_step HB2.out hb)
      have U3 := hide (U2.out.below hb (Nat.le_refl _))
      have B3 := hide (B2.out.below hb (Nat.le_refl _))
      have X3 := hide (X2.out.below hb (Nat.le_refl _))
      have Q3 := hide hQ
      clear HB2 hb U2 B2 X2
      rw [HE.out]
      rw [HZN.out]
      rw [HZ.out] at hQ Q3
      obtain ⟨svQ, rfl, hsQ⟩ := hQ
      obtain ⟨aQ, capQ, rfl, -, -, -⟩ := hsQ
      simp only [zeroUpd] at Q3
      have HB4 := hide (below_step HB3.out (Below.plus (Below.refl _ w3) (.cells #[.int .i64 0, .slice aQ 0 capQ, .int .i64 0, .int .i64 0, .int .i64 0] 38)))
      have U4 := hide (U3.out.below (Below.plus (Below.refl _ w3) (.cells #[.int .i64 0, .slice aQ 0 capQ, .int .i64 0, .int .i64 0, .int .i64 0] 38)) (Nat.le_refl _))
      have B4 := hide (B3.out.below (Below.plus (Below.refl _ w3) (.cells #[.int .i64 0, .slice aQ 0 capQ, .int .i64 0, .int .i64 0, .int .i64 0] 38)) (Nat.le_refl _))
      have X4 := hide (X3.out.below (Below.plus (Below.refl _ w3) (.cells #[.int .i64 0, .slice aQ 0 capQ, .int .i64 0, .int .i64 0, .int .i64 0] 38)) (Nat.le_refl _))
      have Q4 := hide (Q3.out.below (Below.plus (Below.refl _ w3) (.cells #[.int .i64 0, .slice aQ 0 capQ, .int .i64 0, .int .i64 0, .int .i64 0] 38)) (Nat.le_refl _))
      have R4 := hide (Box.new w3 [.int .i64 0, .slice aQ 0 capQ, .int .i64 0, .int .i64 0, .int .i64 0] 38)
      clear HB3 U3 B3 X3 Q3
      have cR0 := R4.out.get 0 rfl
      have cR1 := R4.out.get 1 rfl
      have cR2 := R4.out.get 2 rfl
      have cR3 := R4.out.get 3 rfl
      have cR4 := R4.out.get 4 rfl
      go_wp2_with fail
      refine (sameUpdate_ref _ _ zeroUpd zeroUpd _ Q4.out (isUpd_zero _)).mono ?_
      rintro e w5 ⟨rfl, hb⟩
      have HB5 := hide (below_step HB4.out hb)
      have U5 := hide (U4.out.below hb (Nat.le_refl _))
      have B5 := hide (B4.out.below hb (Nat.le_refl _))
      have X5 := hide (X4.out.below hb (Nat.le_refl _))
      have Q5 := hide (Q4.out.below hb (Nat.le_refl _))
      have R5 := hide (R4.out.below hb (Nat.le_refl _))
      clear HB4 hb U4 B4 X4 Q4 R4
      clear cR0 cR1 cR2 cR3 cR4
      rw [sameU_self]
      go_wp2
      go_ret
      exact ⟨rfl, HB5.out⟩
end Go.Proofs.Ytiomdleoafakkaa
