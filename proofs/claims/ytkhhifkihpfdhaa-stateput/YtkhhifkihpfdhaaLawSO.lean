/- StateOrder, walked: updates in any order that fits come to the same state. -/
import Derived.Test.YtkhhifkihpfdhaaStV
namespace Go.Proofs.Ytkhhifkihpfdhaa
open Go.RowKit

theorem StOwn.form {w : World} {B : Nat} {v : Value} {s : StS} (h : StOwn w B v s) : ∃ a1 c1 a2 c2 a3 c3, v = .agg #[.slice a1 s.clock.length c1, .slice a2 s.lives.length c2, .slice a3 s.tals.length c3] := by
  obtain ⟨cv, lv, tv, h1, h2, h3, h4⟩ := h
  obtain ⟨a1, c1, rfl, -⟩ := h2.row
  obtain ⟨a2, c2, rfl, -⟩ := slice_of_own encL_length h3
  obtain ⟨a3, c3, rfl, -⟩ := slice_of_own encT_length h4
  exact ⟨a1, c1, a2, c2, a3, c3, h1⟩
theorem clockE_zero {xs : List Int} {l : List Upd} {n : Int} : clockE xs l n = 0 ↔ wrongC xs n = 0 ∧ l.length ≤ 300 ∧ errL n xs l = 0 := by
  unfold clockE
  by_cases h1 : wrongC xs n = 0
  · rw [if_neg (by simpa using h1)]
    by_cases h2 : 300 < l.length
    · rw [if_pos h2]; omega
    · rw [if_neg h2]
      constructor
      · exact fun h => ⟨h1, by omega, h⟩
      · exact fun h => h.2.2
  · rw [if_pos h1]
    simp [h1]
theorem clockA_zero {xs : List Int} {l : List Upd} {n : Int} (h : clockE xs l n = 0) : clockA xs l n = 0 := by
  obtain ⟨h1, h2, h3⟩ := clockE_zero.1 h
  unfold clockA
  rw [if_neg (by simpa using h1), if_neg (by omega), if_pos h3]
theorem playE_zero {s : StS} {l : List Upd} : playE s l = 0 ↔ OkS s.clock.length s.clock s.lives s.tals ∧ l.length ≤ 300 ∧ errL s.clock.length s.clock l = 0 := by
  unfold playE
  by_cases h1 : stE s s.clock.length = 0
  · rw [if_neg (by simpa using h1), clockE_zero]
    have hok := stE_ok.1 h1
    constructor
    · exact fun h => ⟨hok, h.2.1, h.2.2⟩
    · exact fun h => ⟨hok.clock, h.2.1, h.2.2⟩
  · rw [if_pos h1]
    constructor
    · exact fun h => absurd h h1
    · exact fun h => absurd (stE_ok.2 h.1) h1
theorem playX_zero {s : StS} {l : List Upd} (h : playE s l = 0) : playX s l = ⟨tickL s.clock l, playLv s.lives l, playT s.tals l⟩ := by unfold playX; rw [if_pos h]
theorem playX_bad {s : StS} {l : List Upd} (h : ¬ playE s l = 0) : playX s l = ⟨[], [], []⟩ := by unfold playX; rw [if_neg h]
theorem errL_all {n : Int} : ∀ (l : List Upd) {c : List Int}, errL n c l = 0 → ∀ u ∈ l, wrongU u n = 0
  | [], _, _, u, hu => by simp at hu
  | x :: r, c, h, u, hu => by
    obtain ⟨h1, h2⟩ := errL_cons h
    rcases List.mem_cons.1 hu with rfl | hu
    · unfold wrongL at h1
      split at h1
      · next hw => exact hw
      · exact h1
    · exact errL_all r h2 u hu
theorem order_main {s : StS} {l : List Upd} (h : playE s l = 0) : playE s (sortL s.clock l) = 0 ∧ playX s (sortL s.clock l) = playX s l := by
  obtain ⟨h1, h2, h3⟩ := playE_zero.1 h
  obtain ⟨o1, o2, o3, o4⟩ := order_sorted h1 h3
  obtain ⟨-, -, hp, -⟩ := sort_main l.length l rfl h1.clock h3
  have he : playE s (sortL s.clock l) = 0 := playE_zero.2 ⟨h1, by rw [hp.length_eq]; exact h2, o1⟩
  refine ⟨he, ?_⟩
  rw [playX_zero he, playX_zero h, o2, o3, o4]

set_option maxRecDepth 100000 in
set_option maxHeartbeats 2000000 in
theorem order_law (v ul : Value) (s : StS) (l : List Upd) (w0 : World) (h : IsSt w0 v s) (hl : LogV w0 ul l) :
    Calls Try.prog 4 #[v, ul] w0 fun e w' => e = .returned (.bool true) ∧ Below w0.heap.size w0 w' := by
  have hin := h
  obtain ⟨cv, lv, tv, rfl, hc, hv, ht⟩ := h
  obtain ⟨a1, cap1, rfl, -, -, -⟩ := id hc
  obtain ⟨a2, cap2, rfl, -, -, -⟩ := id hv
  obtain ⟨a3, cap3, rfl, -, -, -⟩ := id ht
  obtain ⟨a4, cap4, rfl, -, -, -⟩ := id hl
  have hb := Below.plus (Below.refl w0.heap.size w0) (.cells #[.slice a1 s.clock.length cap1, .slice a2 s.lives.length cap2, .slice a3 s.tals.length cap3] 27)
  have S0 := hide (hin.below hb (Nat.le_refl _))
  have C0 := hide (hc.below hb (Nat.le_refl _))
  have U0 := hide (hl.below hb (Nat.le_refl _))
  have G0 := hide (Box.new w0 [.slice a1 s.clock.length cap1, .slice a2 s.lives.length cap2, .slice a3 s.tals.length cap3] 27)
  have HB0 := hide hb
  clear hin hc hv ht hl hb
  obtain ⟨E, HE⟩ : ∃ E, Hid (playE s l = E) := ⟨_, rfl⟩
  obtain ⟨A, HA⟩ : ∃ A, Hid (playA s l = A) := ⟨_, rfl⟩
  by_cases hE : E = 0
  · subst hE
    obtain ⟨X, HX⟩ : ∃ X, Hid (playX s l = X) := ⟨_, rfl⟩
    obtain ⟨p1, p2, p3⟩ := playE_zero.1 HE.out
    obtain ⟨o1, o2⟩ := order_main HE.out
    obtain ⟨g1, g2, -, -⟩ := wrongC_ok p1.clock
    have HCE : Hid (clockE s.clock l s.clock.length = 0) := clockE_zero.2 ⟨p1.clock, p2, p3⟩
    have HCA := hide (clockA_zero HCE.out)
    have HSM : Hid (∀ u ∈ l, Small u) := fun u hu => small_of (errL_all l p3 u hu)
    have HP2 := hide p2
    have hx6 : s.clock.length ≤ 6 := by omega
    have HO1 := hide o1
    have HO2 := hide o2
    rw [HX.out] at HO2
    obtain ⟨A2, HA2⟩ : ∃ A2, Hid (playA s (sortL s.clock l) = A2) := ⟨_, rfl⟩
    clear p1 p2 p3 o1 o2 g1 g2
    go_enter Try.func4, Try.ntmps4
    go_wp2_with fail
    refine (alive4 _).mono ?_
    rintro e w1 ⟨rfl, hb⟩
    have HB1 := hide (below_step HB0.out hb)
    have S1 := hide (S0.out.below hb (Nat.le_refl _))
    have C1 := hide (C0.out.below hb (Nat.le_refl _))
    have U1 := hide (U0.out.below hb (Nat.le_refl _))
    have G1 := hide (G0.out.below hb (Nat.le_refl _))
    clear HB0 hb S0 C0 U0 G0
    have cG0 := G1.out.get 0 rfl
    have cG1 := G1.out.get 1 rfl
    have cG2 := G1.out.get 2 rfl
    go_wp2_with fail
    refine (play_state _ _ s l _ S1.out U1.out).mono ?_
    rintro e w2 ⟨vP, rfl, hP, hb⟩
    have HB2 := hide (below_step HB1.out hb)
    have S2 := hide (S1.out.below hb (Nat.le_refl _))
    have C2 := hide (C1.out.below hb (Nat.le_refl _))
    have U2 := hide (U1.out.below hb (Nat.le_refl _))
    have G2 := hide (G1.out.below hb (Nat.le_refl _))
    have P2 := hide hP
    clear HB1 hb S1 C1 U1 G1
    rw [HE.out, HA.out]
    rw [HX.out] at P2
    clear cG0 cG1 cG2
    obtain ⟨x1, y1, x2, y2, x3, y3, hvp⟩ := P2.out.form
    subst hvp
    clear hP
    have HB3 := hide (below_step HB2.out (Below.plus (Below.refl _ w2) (.cells #[.slice x1 X.clock.length y1, .slice x2 X.lives.length y2, .slice x3 X.tals.length y3] 27)))
    have S3 := hide (S2.out.below (Below.plus (Below.refl _ w2) (.cells #[.slice x1 X.clock.length y1, .slice x2 X.lives.length y2, .slice x3 X.tals.length y3] 27)) (Nat.le_refl _))
    have C3 := hide (C2.out.below (Below.plus (Below.refl _ w2) (.cells #[.slice x1 X.clock.length y1, .slice x2 X.lives.length y2, .slice x3 X.tals.length y3] 27)) (Nat.le_refl _))
    have U3 := hide (U2.out.below (Below.plus (Below.refl _ w2) (.cells #[.slice x1 X.clock.length y1, .slice x2 X.lives.length y2, .slice x3 X.tals.length y3] 27)) (Nat.le_refl _))
    have G3 := hide (G2.out.below (Below.plus (Below.refl _ w2) (.cells #[.slice x1 X.clock.length y1, .slice x2 X.lives.length y2, .slice x3 X.tals.length y3] 27)) (Nat.le_refl _))
    have P3 := hide (P2.out.below (Below.plus (Below.refl _ w2) (.cells #[.slice x1 X.clock.length y1, .slice x2 X.lives.length y2, .slice x3 X.tals.length y3] 27)) (Nat.le_refl _))
    have X3 := hide (Box.new w2 [.slice x1 X.clock.length y1, .slice x2 X.lives.length y2, .slice x3 X.tals.length y3] 27)
    clear HB2 S2 C2 U2 G2 P2
    have HB4 := hide (below_step HB3.out (Below.plus (Below.refl _ (w2.alloc (.cells #[.slice x1 X.clock.length y1, .slice x2 X.lives.length y2, .slice x3 X.tals.length y3] 27))) (.cells #[.int .i64 0, .int .i64 A] 31)))
    have S4 := hide (S3.out.below (Below.plus (Below.refl _ (w2.alloc (.cells #[.slice x1 X.clock.length y1, .slice x2 X.lives.length y2, .slice x3 X.tals.length y3] 27))) (.cells #[.int .i64 0, .int .i64 A] 31)) (Nat.le_refl _))
    have C4 := hide (C3.out.below (Below.plus (Below.refl _ (w2.alloc (.cells #[.slice x1 X.clock.length y1, .slice x2 X.lives.length y2, .slice x3 X.tals.length y3] 27))) (.cells #[.int .i64 0, .int .i64 A] 31)) (Nat.le_refl _))
    have U4 := hide (U3.out.below (Below.plus (Below.refl _ (w2.alloc (.cells #[.slice x1 X.clock.length y1, .slice x2 X.lives.length y2, .slice x3 X.tals.length y3] 27))) (.cells #[.int .i64 0, .int .i64 A] 31)) (Nat.le_refl _))
    have G4 := hide (G3.out.below (Below.plus (Below.refl _ (w2.alloc (.cells #[.slice x1 X.clock.length y1, .slice x2 X.lives.length y2, .slice x3 X.tals.length y3] 27))) (.cells #[.int .i64 0, .int .i64 A] 31)) (Nat.le_refl _))
    have P4 := hide (P3.out.below (Below.plus (Below.refl _ (w2.alloc (.cells #[.slice x1 X.clock.length y1, .slice x2 X.lives.length y2, .slice x3 X.tals.length y3] 27))) (.cells #[.int .i64 0, .int .i64 A] 31)) (Nat.le_refl _))
    have X4 := hide (X3.out.below (Below.plus (Below.refl _ (w2.alloc (.cells #[.slice x1 X.clock.length y1, .slice x2 X.lives.length y2, .slice x3 X.tals.length y3] 27))) (.cells #[.int .i64 0, .int .i64 A] 31)) (Nat.le_refl _))
    have F4 := hide (Box.new (w2.alloc (.cells #[.slice x1 X.clock.length y1, .slice x2 X.lives.length y2, .slice x3 X.tals.length y3] 27)) [.int .i64 0, .int .i64 A] 31)
    clear HB3 S3 C3 U3 G3 P3 X3
    simp only [World.size_alloc] at F4
    have cF0 := F4.out.get 0 rfl
    have cF1 := F4.out.get 1 rfl
    have cG0 := G4.out.get 0 rfl
    have cG1 := G4.out.get 1 rfl
    have cG2 := G4.out.get 2 rfl
    go_wp2_with fail
    refine (sorted_ok _ _ s.clock l s.clock.length _ C4.out U4.out HCE.out HSM.out hx6 HP2.out HCA.out).mono ?_
    rintro e w5 ⟨vQ, rfl, hQ, hb⟩
    have HB5 := hide (below_step HB4.out hb)
    have S5 := hide (S4.out.below hb (Nat.le_refl _))
    have C5 := hide (C4.out.below hb (Nat.le_refl _))
    have U5 := hide (U4.out.below hb (Nat.le_refl _))
    have G5 := hide (G4.out.below hb (Nat.le_refl _))
    have P5 := hide (P4.out.below hb (Nat.le_refl _))
    have X5 := hide (X4.out.below hb (Nat.le_refl _))
    have F5 := hide (F4.out.below hb (Nat.le_refl _))
    have Q5 := hide hQ
    clear HB4 hb S4 C4 U4 G4 P4 X4 F4
    clear cF0 cF1
    clear cG0 cG1 cG2
    obtain ⟨xq, yq, hvq, -⟩ := id Q5.out
    subst hvq
    clear hQ
    have HB6 := hide (below_step HB5.out (Below.plus (Below.refl _ w5) (.cells #[.int .i64 0, .int .i64 0] 31)))
    have S6 := hide (S5.out.below (Below.plus (Below.refl _ w5) (.cells #[.int .i64 0, .int .i64 0] 31)) (Nat.le_refl _))
    have C6 := hide (C5.out.below (Below.plus (Below.refl _ w5) (.cells #[.int .i64 0, .int .i64 0] 31)) (Nat.le_refl _))
    have U6 := hide (U5.out.below (Below.plus (Below.refl _ w5) (.cells #[.int .i64 0, .int .i64 0] 31)) (Nat.le_refl _))
    have G6 := hide (G5.out.below (Below.plus (Below.refl _ w5) (.cells #[.int .i64 0, .int .i64 0] 31)) (Nat.le_refl _))
    have P6 := hide (P5.out.below (Below.plus (Below.refl _ w5) (.cells #[.int .i64 0, .int .i64 0] 31)) (Nat.le_refl _))
    have X6 := hide (X5.out.below (Below.plus (Below.refl _ w5) (.cells #[.int .i64 0, .int .i64 0] 31)) (Nat.le_refl _))
    have F6 := hide (F5.out.below (Below.plus (Below.refl _ w5) (.cells #[.int .i64 0, .int .i64 0] 31)) (Nat.le_refl _))
    have Q6 := hide (Q5.out.below (Below.plus (Below.refl _ w5) (.cells #[.int .i64 0, .int .i64 0] 31)) (Nat.le_refl _))
    have K6 := hide (Box.new w5 [.int .i64 0, .int .i64 0] 31)
    clear HB5 S5 C5 U5 G5 P5 X5 F5 Q5
    have cG0 := G6.out.get 0 rfl
    have cG1 := G6.out.get 1 rfl
    have cG2 := G6.out.get 2 rfl
    go_wp2_with fail
    refine (play_state _ _ s (sortL s.clock l) _ S6.out Q6.out).mono ?_
    rintro e w7 ⟨vR, rfl, hR, hb⟩
    have HB7 := hide (below_step HB6.out hb)
    have S7 := hide (S6.out.below hb (Nat.le_refl _))
    have C7 := hide (C6.out.below hb (Nat.le_refl _))
    have U7 := hide (U6.out.below hb (Nat.le_refl _))
    have G7 := hide (G6.out.below hb (Nat.le_refl _))
    have P7 := hide (P6.out.below hb (Nat.le_refl _))
    have X7 := hide (X6.out.below hb (Nat.le_refl _))
    have F7 := hide (F6.out.below hb (Nat.le_refl _))
    have Q7 := hide (Q6.out.below hb (Nat.le_refl _))
    have K7 := hide (K6.out.below hb (Nat.le_refl _))
    have R7 := hide hR
    clear HB6 hb S6 C6 U6 G6 P6 X6 F6 Q6 K6
    rw [HO1.out, HA2.out]
    rw [HO2.out] at R7
    clear cG0 cG1 cG2
    obtain ⟨z1, t1, z2, t2, z3, t3, hvr⟩ := R7.out.form
    subst hvr
    clear hR
    have HB8 := hide (below_step HB7.out (Below.plus (Below.refl _ w7) (.cells #[.slice z1 X.clock.length t1, .slice z2 X.lives.length t2, .slice z3 X.tals.length t3] 27)))
    have S8 := hide (S7.out.below (Below.plus (Below.refl _ w7) (.cells #[.slice z1 X.clock.length t1, .slice z2 X.lives.length t2, .slice z3 X.tals.length t3] 27)) (Nat.le_refl _))
    have C8 := hide (C7.out.below (Below.plus (Below.refl _ w7) (.cells #[.slice z1 X.clock.length t1, .slice z2 X.lives.length t2, .slice z3 X.tals.length t3] 27)) (Nat.le_refl _))
    have U8 := hide (U7.out.below (Below.plus (Below.refl _ w7) (.cells #[.slice z1 X.clock.length t1, .slice z2 X.lives.length t2, .slice z3 X.tals.length t3] 27)) (Nat.le_refl _))
    have G8 := hide (G7.out.below (Below.plus (Below.refl _ w7) (.cells #[.slice z1 X.clock.length t1, .slice z2 X.lives.length t2, .slice z3 X.tals.length t3] 27)) (Nat.le_refl _))
    have P8 := hide (P7.out.below (Below.plus (Below.refl _ w7) (.cells #[.slice z1 X.clock.length t1, .slice z2 X.lives.length t2, .slice z3 X.tals.length t3] 27)) (Nat.le_refl _))
    have X8 := hide (X7.out.below (Below.plus (Below.refl _ w7) (.cells #[.slice z1 X.clock.length t1, .slice z2 X.lives.length t2, .slice z3 X.tals.length t3] 27)) (Nat.le_refl _))
    have F8 := hide (F7.out.below (Below.plus (Below.refl _ w7) (.cells #[.slice z1 X.clock.length t1, .slice z2 X.lives.length t2, .slice z3 X.tals.length t3] 27)) (Nat.le_refl _))
    have Q8 := hide (Q7.out.below (Below.plus (Below.refl _ w7) (.cells #[.slice z1 X.clock.length t1, .slice z2 X.lives.length t2, .slice z3 X.tals.length t3] 27)) (Nat.le_refl _))
    have K8 := hide (K7.out.below (Below.plus (Below.refl _ w7) (.cells #[.slice z1 X.clock.length t1, .slice z2 X.lives.length t2, .slice z3 X.tals.length t3] 27)) (Nat.le_refl _))
    have R8 := hide (R7.out.below (Below.plus (Below.refl _ w7) (.cells #[.slice z1 X.clock.length t1, .slice z2 X.lives.length t2, .slice z3 X.tals.length t3] 27)) (Nat.le_refl _))
    have Y8 := hide (Box.new w7 [.slice z1 X.clock.length t1, .slice z2 X.lives.length t2, .slice z3 X.tals.length t3] 27)
    clear HB7 S7 C7 U7 G7 P7 X7 F7 Q7 K7 R7
    have HB9 := hide (below_step HB8.out (Below.plus (Below.refl _ (w7.alloc (.cells #[.slice z1 X.clock.length t1, .slice z2 X.lives.length t2, .slice z3 X.tals.length t3] 27))) (.cells #[.int .i64 0, .int .i64 A2] 31)))
    have S9 := hide (S8.out.below (Below.plus (Below.refl _ (w7.alloc (.cells #[.slice z1 X.clock.length t1, .slice z2 X.lives.length t2, .slice z3 X.tals.length t3] 27))) (.cells #[.int .i64 0, .int .i64 A2] 31)) (Nat.le_refl _))
    have C9 := hide (C8.out.below (Below.plus (Below.refl _ (w7.alloc (.cells #[.slice z1 X.clock.length t1, .slice z2 X.lives.length t2, .slice z3 X.tals.length t3] 27))) (.cells #[.int .i64 0, .int .i64 A2] 31)) (Nat.le_refl _))
    have U9 := hide (U8.out.below (Below.plus (Below.refl _ (w7.alloc (.cells #[.slice z1 X.clock.length t1, .slice z2 X.lives.length t2, .slice z3 X.tals.length t3] 27))) (.cells #[.int .i64 0, .int .i64 A2] 31)) (Nat.le_refl _))
    have G9 := hide (G8.out.below (Below.plus (Below.refl _ (w7.alloc (.cells #[.slice z1 X.clock.length t1, .slice z2 X.lives.length t2, .slice z3 X.tals.length t3] 27))) (.cells #[.int .i64 0, .int .i64 A2] 31)) (Nat.le_refl _))
    have P9 := hide (P8.out.below (Below.plus (Below.refl _ (w7.alloc (.cells #[.slice z1 X.clock.length t1, .slice z2 X.lives.length t2, .slice z3 X.tals.length t3] 27))) (.cells #[.int .i64 0, .int .i64 A2] 31)) (Nat.le_refl _))
    have X9 := hide (X8.out.below (Below.plus (Below.refl _ (w7.alloc (.cells #[.slice z1 X.clock.length t1, .slice z2 X.lives.length t2, .slice z3 X.tals.length t3] 27))) (.cells #[.int .i64 0, .int .i64 A2] 31)) (Nat.le_refl _))
    have F9 := hide (F8.out.below (Below.plus (Below.refl _ (w7.alloc (.cells #[.slice z1 X.clock.length t1, .slice z2 X.lives.length t2, .slice z3 X.tals.length t3] 27))) (.cells #[.int .i64 0, .int .i64 A2] 31)) (Nat.le_refl _))
    have Q9 := hide (Q8.out.below (Below.plus (Below.refl _ (w7.alloc (.cells #[.slice z1 X.clock.length t1, .slice z2 X.lives.length t2, .slice z3 X.tals.length t3] 27))) (.cells #[.int .i64 0, .int .i64 A2] 31)) (Nat.le_refl _))
    have K9 := hide (K8.out.below (Below.plus (Below.refl _ (w7.alloc (.cells #[.slice z1 X.clock.length t1, .slice z2 X.lives.length t2, .slice z3 X.tals.length t3] 27))) (.cells #[.int .i64 0, .int .i64 A2] 31)) (Nat.le_refl _))
    have R9 := hide (R8.out.below (Below.plus (Below.refl _ (w7.alloc (.cells #[.slice z1 X.clock.length t1, .slice z2 X.lives.length t2, .slice z3 X.tals.length t3] 27))) (.cells #[.int .i64 0, .int .i64 A2] 31)) (Nat.le_refl _))
    have Y9 := hide (Y8.out.below (Below.plus (Below.refl _ (w7.alloc (.cells #[.slice z1 X.clock.length t1, .slice z2 X.lives.length t2, .slice z3 X.tals.length t3] 27))) (.cells #[.int .i64 0, .int .i64 A2] 31)) (Nat.le_refl _))
    have J9 := hide (Box.new (w7.alloc (.cells #[.slice z1 X.clock.length t1, .slice z2 X.lives.length t2, .slice z3 X.tals.length t3] 27)) [.int .i64 0, .int .i64 A2] 31)
    clear HB8 S8 C8 U8 G8 P8 X8 F8 Q8 K8 R8 Y8
    simp only [World.size_alloc] at J9
    have cJ0 := J9.out.get 0 rfl
    have cJ1 := J9.out.get 1 rfl
    have cK0 := K9.out.get 0 rfl
    have cK1 := K9.out.get 1 rfl
    have cX0 := X9.out.get 0 rfl
    have cX1 := X9.out.get 1 rfl
    have cX2 := X9.out.get 2 rfl
    have cY0 := Y9.out.get 0 rfl
    have cY1 := Y9.out.get 1 rfl
    have cY2 := Y9.out.get 2 rfl
    go_wp2_with fail
    refine (same_st _ _ X _ P9.out.st R9.out.st).mono ?_
    rintro e w10 ⟨rfl, hb⟩
    have HB10 := hide (below_step HB9.out hb)
    have S10 := hide (S9.out.below hb (Nat.le_refl _))
    have C10 := hide (C9.out.below hb (Nat.le_refl _))
    have U10 := hide (U9.out.below hb (Nat.le_refl _))
    have G10 := hide (G9.out.below hb (Nat.le_refl _))
    have P10 := hide (P9.out.below hb (Nat.le_refl _))
    have X10 := hide (X9.out.below hb (Nat.le_refl _))
    have F10 := hide (F9.out.below hb (Nat.le_refl _))
    have Q10 := hide (Q9.out.below hb (Nat.le_refl _))
    have K10 := hide (K9.out.below hb (Nat.le_refl _))
    have R10 := hide (R9.out.below hb (Nat.le_refl _))
    have Y10 := hide (Y9.out.below hb (Nat.le_refl _))
    have J10 := hide (J9.out.below hb (Nat.le_refl _))
    clear HB9 hb S9 C9 U9 G9 P9 X9 F9 Q9 K9 R9 Y9 J9
    go_wp2_with fail
    go_ret
    exact ⟨rfl, HB10.out⟩
  · have hE' : (E != 0) = true := by simp [hE]
    have HX : Hid (playX s l = ⟨[], [], []⟩) := playX_bad (by rw [HE.out]; exact hE)
    clear hE
    go_enter Try.func4, Try.ntmps4
    go_wp2_with fail
    refine (alive4 _).mono ?_
    rintro e w1 ⟨rfl, hb⟩
    have HB1 := hide (below_step HB0.out hb)
    have S1 := hide (S0.out.below hb (Nat.le_refl _))
    have C1 := hide (C0.out.below hb (Nat.le_refl _))
    have U1 := hide (U0.out.below hb (Nat.le_refl _))
    have G1 := hide (G0.out.below hb (Nat.le_refl _))
    clear HB0 hb S0 C0 U0 G0
    have cG0 := G1.out.get 0 rfl
    have cG1 := G1.out.get 1 rfl
    have cG2 := G1.out.get 2 rfl
    go_wp2_with fail
    refine (play_state _ _ s l _ S1.out U1.out).mono ?_
    rintro e w2 ⟨vP, rfl, hP, hb⟩
    have HB2 := hide (below_step HB1.out hb)
    have S2 := hide (S1.out.below hb (Nat.le_refl _))
    have C2 := hide (C1.out.below hb (Nat.le_refl _))
    have U2 := hide (U1.out.below hb (Nat.le_refl _))
    have G2 := hide (G1.out.below hb (Nat.le_refl _))
    have P2 := hide hP
    clear HB1 hb S1 C1 U1 G1
    rw [HE.out, HA.out]
    rw [HX.out] at P2
    clear cG0 cG1 cG2
    obtain ⟨x1, y1, x2, y2, x3, y3, hvp⟩ := P2.out.form
    subst hvp
    clear hP
    have HB3 := hide (below_step HB2.out (Below.plus (Below.refl _ w2) (.cells #[.slice x1 0 y1, .slice x2 0 y2, .slice x3 0 y3] 27)))
    have S3 := hide (S2.out.below (Below.plus (Below.refl _ w2) (.cells #[.slice x1 0 y1, .slice x2 0 y2, .slice x3 0 y3] 27)) (Nat.le_refl _))
    have C3 := hide (C2.out.below (Below.plus (Below.refl _ w2) (.cells #[.slice x1 0 y1, .slice x2 0 y2, .slice x3 0 y3] 27)) (Nat.le_refl _))
    have U3 := hide (U2.out.below (Below.plus (Below.refl _ w2) (.cells #[.slice x1 0 y1, .slice x2 0 y2, .slice x3 0 y3] 27)) (Nat.le_refl _))
    have G3 := hide (G2.out.below (Below.plus (Below.refl _ w2) (.cells #[.slice x1 0 y1, .slice x2 0 y2, .slice x3 0 y3] 27)) (Nat.le_refl _))
    have P3 := hide (P2.out.below (Below.plus (Below.refl _ w2) (.cells #[.slice x1 0 y1, .slice x2 0 y2, .slice x3 0 y3] 27)) (Nat.le_refl _))
    have X3 := hide (Box.new w2 [.slice x1 0 y1, .slice x2 0 y2, .slice x3 0 y3] 27)
    clear HB2 S2 C2 U2 G2 P2
    have HB4 := hide (below_step HB3.out (Below.plus (Below.refl _ (w2.alloc (.cells #[.slice x1 0 y1, .slice x2 0 y2, .slice x3 0 y3] 27))) (.cells #[.int .i64 E, .int .i64 A] 31)))
    have S4 := hide (S3.out.below (Below.plus (Below.refl _ (w2.alloc (.cells #[.slice x1 0 y1, .slice x2 0 y2, .slice x3 0 y3] 27))) (.cells #[.int .i64 E, .int .i64 A] 31)) (Nat.le_refl _))
    have C4 := hide (C3.out.below (Below.plus (Below.refl _ (w2.alloc (.cells #[.slice x1 0 y1, .slice x2 0 y2, .slice x3 0 y3] 27))) (.cells #[.int .i64 E, .int .i64 A] 31)) (Nat.le_refl _))
    have U4 := hide (U3.out.below (Below.plus (Below.refl _ (w2.alloc (.cells #[.slice x1 0 y1, .slice x2 0 y2, .slice x3 0 y3] 27))) (.cells #[.int .i64 E, .int .i64 A] 31)) (Nat.le_refl _))
    have G4 := hide (G3.out.below (Below.plus (Below.refl _ (w2.alloc (.cells #[.slice x1 0 y1, .slice x2 0 y2, .slice x3 0 y3] 27))) (.cells #[.int .i64 E, .int .i64 A] 31)) (Nat.le_refl _))
    have P4 := hide (P3.out.below (Below.plus (Below.refl _ (w2.alloc (.cells #[.slice x1 0 y1, .slice x2 0 y2, .slice x3 0 y3] 27))) (.cells #[.int .i64 E, .int .i64 A] 31)) (Nat.le_refl _))
    have X4 := hide (X3.out.below (Below.plus (Below.refl _ (w2.alloc (.cells #[.slice x1 0 y1, .slice x2 0 y2, .slice x3 0 y3] 27))) (.cells #[.int .i64 E, .int .i64 A] 31)) (Nat.le_refl _))
    have F4 := hide (Box.new (w2.alloc (.cells #[.slice x1 0 y1, .slice x2 0 y2, .slice x3 0 y3] 27)) [.int .i64 E, .int .i64 A] 31)
    clear HB3 S3 C3 U3 G3 P3 X3
    simp only [World.size_alloc] at F4
    have cF0 := F4.out.get 0 rfl
    have cF1 := F4.out.get 1 rfl
    have cX0 := X4.out.get 0 rfl
    have cX1 := X4.out.get 1 rfl
    have cX2 := X4.out.get 2 rfl
    go_wp2_with fail
    refine (same_st _ _ ⟨[], [], []⟩ _ P4.out.st (StOwn.none _ 0).st).mono ?_
    rintro e w5 ⟨rfl, hb⟩
    have HB5 := hide (below_step HB4.out hb)
    have S5 := hide (S4.out.below hb (Nat.le_refl _))
    have C5 := hide (C4.out.below hb (Nat.le_refl _))
    have U5 := hide (U4.out.below hb (Nat.le_refl _))
    have G5 := hide (G4.out.below hb (Nat.le_refl _))
    have P5 := hide (P4.out.below hb (Nat.le_refl _))
    have X5 := hide (X4.out.below hb (Nat.le_refl _))
    have F5 := hide (F4.out.below hb (Nat.le_refl _))
    clear HB4 hb S4 C4 U4 G4 P4 X4 F4
    go_wp2_with fail
    go_ret
    exact ⟨rfl, HB5.out⟩
end Go.Proofs.Ytkhhifkihpfdhaa
