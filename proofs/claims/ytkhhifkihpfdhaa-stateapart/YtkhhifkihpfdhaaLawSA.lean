/- StateApart, walked: two updates that have not seen each other may come either way. -/
import Derived.Test.YtkhhifkihpfdhaaLawSO
namespace Go.Proofs.Ytkhhifkihpfdhaa
open Go.RowKit

theorem apart_main {s : StS} {a b : Upd} (h : playE s [a, b] = 0) (h' : playE s [b, a] = 0) : playX s [a, b] = playX s [b, a] := by
  obtain ⟨h1, -, h3⟩ := playE_zero.1 h
  obtain ⟨-, -, k3⟩ := playE_zero.1 h'
  obtain ⟨o1, o2, o3⟩ := apart_two h1 h3 k3
  rw [playX_zero h, playX_zero h', o1, o2, o3]
/-- Two updates in one block. -/
theorem log_two {w : World} {g : Nat} {a b : Upd} {va vb : Value} (h : Box w g [.int .i64 a.author, va, .int .i64 a.kind, .int .i64 a.key, .int .i64 a.item, .int .i64 b.author, vb, .int .i64 b.kind, .int .i64 b.key, .int .i64 b.item] 47) (ha : Row w va a.seen) (hb : Row w vb b.seen) : LogV w (.slice (some ⟨g, 0, none⟩) 2 2) [a, b] :=
  log_boxN (ps := [(a, va), (b, vb)]) h (by intro p hp; simp at hp; rcases hp with rfl | rfl; exact ha; exact hb) (by simp)

set_option maxRecDepth 100000 in
set_option maxHeartbeats 2000000 in
theorem apart_law (v va vb : Value) (s : StS) (a b : Upd) (w : World) (h : IsSt w v s) (ha : IsUpd w va a) (hb : IsUpd w vb b) :
    Calls Try.prog 6 #[v, va, vb] w fun e w' => e = .returned (.bool true) ∧ Below w.heap.size w w' := by
  have hin := h
  obtain ⟨cv, lv, tv, rfl, hc, hv, ht⟩ := h
  obtain ⟨a1, cap1, rfl, -, -, -⟩ := id hc
  obtain ⟨a2, cap2, rfl, -, -, -⟩ := id hv
  obtain ⟨a3, cap3, rfl, -, -, -⟩ := id ht
  obtain ⟨sa, rfl, hsa⟩ := ha
  obtain ⟨a4, cap4, rfl, -, -, -⟩ := id hsa
  obtain ⟨sb, rfl, hsb⟩ := hb
  obtain ⟨a5, cap5, rfl, -, -, -⟩ := id hsb
  have hb3 := Below.plus (Below.plus (Below.plus (Below.refl w.heap.size w) (.cells #[.slice a1 s.clock.length cap1, .slice a2 s.lives.length cap2, .slice a3 s.tals.length cap3] 27)) (.cells #[.int .i64 a.author, .slice a4 a.seen.length cap4, .int .i64 a.kind, .int .i64 a.key, .int .i64 a.item] 47)) (.cells #[.int .i64 b.author, .slice a5 b.seen.length cap5, .int .i64 b.kind, .int .i64 b.key, .int .i64 b.item] 47)
  have S0 := hide (hin.below hb3 (Nat.le_refl _))
  have A0 := hide (hsa.below hb3 (Nat.le_refl _))
  have B0 := hide (hsb.below hb3 (Nat.le_refl _))
  have G0 := hide (((Box.new w [.slice a1 s.clock.length cap1, .slice a2 s.lives.length cap2, .slice a3 s.tals.length cap3] 27).plus (.cells #[.int .i64 a.author, .slice a4 a.seen.length cap4, .int .i64 a.kind, .int .i64 a.key, .int .i64 a.item] 47)).plus (.cells #[.int .i64 b.author, .slice a5 b.seen.length cap5, .int .i64 b.kind, .int .i64 b.key, .int .i64 b.item] 47))
  have M0 := hide ((Box.new (w.alloc (.cells #[.slice a1 s.clock.length cap1, .slice a2 s.lives.length cap2, .slice a3 s.tals.length cap3] 27)) [.int .i64 a.author, .slice a4 a.seen.length cap4, .int .i64 a.kind, .int .i64 a.key, .int .i64 a.item] 47).plus (.cells #[.int .i64 b.author, .slice a5 b.seen.length cap5, .int .i64 b.kind, .int .i64 b.key, .int .i64 b.item] 47))
  have N0 := hide (Box.new ((w.alloc (.cells #[.slice a1 s.clock.length cap1, .slice a2 s.lives.length cap2, .slice a3 s.tals.length cap3] 27)).alloc (.cells #[.int .i64 a.author, .slice a4 a.seen.length cap4, .int .i64 a.kind, .int .i64 a.key, .int .i64 a.item] 47)) [.int .i64 b.author, .slice a5 b.seen.length cap5, .int .i64 b.kind, .int .i64 b.key, .int .i64 b.item] 47)
  rw [World.size_alloc] at M0
  rw [World.size_alloc, World.size_alloc] at N0
  have HB0 := hide hb3
  clear hin hc hv ht hsa hsb hb3
  obtain ⟨E, HE⟩ : ∃ E, Hid (playE s [a, b] = E) := ⟨_, rfl⟩
  obtain ⟨A, HA⟩ : ∃ A, Hid (playA s [a, b] = A) := ⟨_, rfl⟩
  obtain ⟨X, HX⟩ : ∃ X, Hid (playX s [a, b] = X) := ⟨_, rfl⟩
  obtain ⟨E2, HE2⟩ : ∃ E, Hid (playE s [b, a] = E) := ⟨_, rfl⟩
  obtain ⟨A2, HA2⟩ : ∃ A, Hid (playA s [b, a] = A) := ⟨_, rfl⟩
  obtain ⟨Y, HY⟩ : ∃ X, Hid (playX s [b, a] = X) := ⟨_, rfl⟩
  by_cases hau : a.author = b.author
  · have hau' : (a.author == b.author) = true := by simp [hau]
    clear hau
    go_enter Try.func6, Try.ntmps6
    go_wp2_with fail
    refine (alive4 _).mono ?_
    rintro e w1 ⟨rfl, hb⟩
    have HB1 := hide (below_step HB0.out hb)
    have S1 := hide (S0.out.below hb (Nat.le_refl _))
    have A1 := hide (A0.out.below hb (Nat.le_refl _))
    have B1 := hide (B0.out.below hb (Nat.le_refl _))
    have G1 := hide (G0.out.below hb (Nat.le_refl _))
    have M1 := hide (M0.out.below hb (Nat.le_refl _))
    have N1 := hide (N0.out.below hb (Nat.le_refl _))
    clear HB0 hb S0 A0 B0 G0 M0 N0
    have cM0 := M1.out.get 0 rfl
    have cN0 := N1.out.get 0 rfl
    go_wp2_with fail
    go_ret
    exact ⟨rfl, HB1.out⟩
  · have hau' : (a.author == b.author) = false := by simp [hau]
    have HXY : Hid (E = 0 → E2 = 0 → X = Y) := fun h1 h2 => by rw [← HX.out, ← HY.out]; exact apart_main (by rw [HE.out]; exact h1) (by rw [HE2.out]; exact h2)
    clear hau
    go_enter Try.func6, Try.ntmps6
    go_wp2_with fail
    refine (alive4 _).mono ?_
    rintro e w1 ⟨rfl, hb⟩
    have HB1 := hide (below_step HB0.out hb)
    have S1 := hide (S0.out.below hb (Nat.le_refl _))
    have A1 := hide (A0.out.below hb (Nat.le_refl _))
    have B1 := hide (B0.out.below hb (Nat.le_refl _))
    have G1 := hide (G0.out.below hb (Nat.le_refl _))
    have M1 := hide (M0.out.below hb (Nat.le_refl _))
    have N1 := hide (N0.out.below hb (Nat.le_refl _))
    clear HB0 hb S0 A0 B0 G0 M0 N0
    have cG0 := G1.out.get 0 rfl
    have cG1 := G1.out.get 1 rfl
    have cG2 := G1.out.get 2 rfl
    have cM0 := M1.out.get 0 rfl
    have cM1 := M1.out.get 1 rfl
    have cM2 := M1.out.get 2 rfl
    have cM3 := M1.out.get 3 rfl
    have cM4 := M1.out.get 4 rfl
    have cN0 := N1.out.get 0 rfl
    have cN1 := N1.out.get 1 rfl
    have cN2 := N1.out.get 2 rfl
    have cN3 := N1.out.get 3 rfl
    have cN4 := N1.out.get 4 rfl
    have hb2 := Below.plus (Below.refl w1.heap.size w1) (.cells #[.int .i64 a.author, .slice a4 a.seen.length cap4, .int .i64 a.kind, .int .i64 a.key, .int .i64 a.item, .int .i64 b.author, .slice a5 b.seen.length cap5, .int .i64 b.kind, .int .i64 b.key, .int .i64 b.item] 47)
    have L1 := hide (log_two (Box.new w1 [.int .i64 a.author, .slice a4 a.seen.length cap4, .int .i64 a.kind, .int .i64 a.key, .int .i64 a.item, .int .i64 b.author, .slice a5 b.seen.length cap5, .int .i64 b.kind, .int .i64 b.key, .int .i64 b.item] 47) (A1.out.below hb2 (Nat.le_refl _)) (B1.out.below hb2 (Nat.le_refl _)))
    clear hb2
    have HB2 := hide (below_step HB1.out (Below.plus (Below.refl _ w1) (.cells #[.int .i64 a.author, .slice a4 a.seen.length cap4, .int .i64 a.kind, .int .i64 a.key, .int .i64 a.item, .int .i64 b.author, .slice a5 b.seen.length cap5, .int .i64 b.kind, .int .i64 b.key, .int .i64 b.item] 47)))
    have S2 := hide (S1.out.below (Below.plus (Below.refl _ w1) (.cells #[.int .i64 a.author, .slice a4 a.seen.length cap4, .int .i64 a.kind, .int .i64 a.key, .int .i64 a.item, .int .i64 b.author, .slice a5 b.seen.length cap5, .int .i64 b.kind, .int .i64 b.key, .int .i64 b.item] 47)) (Nat.le_refl _))
    have A2 := hide (A1.out.below (Below.plus (Below.refl _ w1) (.cells #[.int .i64 a.author, .slice a4 a.seen.length cap4, .int .i64 a.kind, .int .i64 a.key, .int .i64 a.item, .int .i64 b.author, .slice a5 b.seen.length cap5, .int .i64 b.kind, .int .i64 b.key, .int .i64 b.item] 47)) (Nat.le_refl _))
    have B2 := hide (B1.out.below (Below.plus (Below.refl _ w1) (.cells #[.int .i64 a.author, .slice a4 a.seen.length cap4, .int .i64 a.kind, .int .i64 a.key, .int .i64 a.item, .int .i64 b.author, .slice a5 b.seen.length cap5, .int .i64 b.kind, .int .i64 b.key, .int .i64 b.item] 47)) (Nat.le_refl _))
    have G2 := hide (G1.out.below (Below.plus (Below.refl _ w1) (.cells #[.int .i64 a.author, .slice a4 a.seen.length cap4, .int .i64 a.kind, .int .i64 a.key, .int .i64 a.item, .int .i64 b.author, .slice a5 b.seen.length cap5, .int .i64 b.kind, .int .i64 b.key, .int .i64 b.item] 47)) (Nat.le_refl _))
    have M2 := hide (M1.out.below (Below.plus (Below.refl _ w1) (.cells #[.int .i64 a.author, .slice a4 a.seen.length cap4, .int .i64 a.kind, .int .i64 a.key, .int .i64 a.item, .int .i64 b.author, .slice a5 b.seen.length cap5, .int .i64 b.kind, .int .i64 b.key, .int .i64 b.item] 47)) (Nat.le_refl _))
    have N2 := hide (N1.out.below (Below.plus (Below.refl _ w1) (.cells #[.int .i64 a.author, .slice a4 a.seen.length cap4, .int .i64 a.kind, .int .i64 a.key, .int .i64 a.item, .int .i64 b.author, .slice a5 b.seen.length cap5, .int .i64 b.kind, .int .i64 b.key, .int .i64 b.item] 47)) (Nat.le_refl _))
    have D2 := hide (Box.new w1 [.int .i64 a.author, .slice a4 a.seen.length cap4, .int .i64 a.kind, .int .i64 a.key, .int .i64 a.item, .int .i64 b.author, .slice a5 b.seen.length cap5, .int .i64 b.kind, .int .i64 b.key, .int .i64 b.item] 47)
    clear HB1 S1 A1 B1 G1 M1 N1
    go_wp2_with fail
    refine (play_state _ _ s [a, b] _ S2.out L1.out).mono ?_
    rintro e w3 ⟨vP, rfl, hP, hb⟩
    have HB3 := hide (below_step HB2.out hb)
    have S3 := hide (S2.out.below hb (Nat.le_refl _))
    have A3 := hide (A2.out.below hb (Nat.le_refl _))
    have B3 := hide (B2.out.below hb (Nat.le_refl _))
    have G3 := hide (G2.out.below hb (Nat.le_refl _))
    have M3 := hide (M2.out.below hb (Nat.le_refl _))
    have N3 := hide (N2.out.below hb (Nat.le_refl _))
    have D3 := hide (D2.out.below hb (Nat.le_refl _))
    have P3 := hide hP
    clear HB2 hb S2 A2 B2 G2 M2 N2 D2
    rw [HE.out, HA.out]
    rw [HX.out] at P3
    clear cG0 cG1 cG2
    clear cM0 cM1 cM2 cM3 cM4
    clear cN0 cN1 cN2 cN3 cN4
    obtain ⟨x1, y1, x2, y2, x3, y3, hvp⟩ := P3.out.form
    subst hvp
    clear hP L1
    clear D3
    have HB4 := hide (below_step HB3.out (Below.plus (Below.refl _ w3) (.cells #[.slice x1 X.clock.length y1, .slice x2 X.lives.length y2, .slice x3 X.tals.length y3] 27)))
    have S4 := hide (S3.out.below (Below.plus (Below.refl _ w3) (.cells #[.slice x1 X.clock.length y1, .slice x2 X.lives.length y2, .slice x3 X.tals.length y3] 27)) (Nat.le_refl _))
    have A4 := hide (A3.out.below (Below.plus (Below.refl _ w3) (.cells #[.slice x1 X.clock.length y1, .slice x2 X.lives.length y2, .slice x3 X.tals.length y3] 27)) (Nat.le_refl _))
    have B4 := hide (B3.out.below (Below.plus (Below.refl _ w3) (.cells #[.slice x1 X.clock.length y1, .slice x2 X.lives.length y2, .slice x3 X.tals.length y3] 27)) (Nat.le_refl _))
    have G4 := hide (G3.out.below (Below.plus (Below.refl _ w3) (.cells #[.slice x1 X.clock.length y1, .slice x2 X.lives.length y2, .slice x3 X.tals.length y3] 27)) (Nat.le_refl _))
    have M4 := hide (M3.out.below (Below.plus (Below.refl _ w3) (.cells #[.slice x1 X.clock.length y1, .slice x2 X.lives.length y2, .slice x3 X.tals.length y3] 27)) (Nat.le_refl _))
    have N4 := hide (N3.out.below (Below.plus (Below.refl _ w3) (.cells #[.slice x1 X.clock.length y1, .slice x2 X.lives.length y2, .slice x3 X.tals.length y3] 27)) (Nat.le_refl _))
    have P4 := hide (P3.out.below (Below.plus (Below.refl _ w3) (.cells #[.slice x1 X.clock.length y1, .slice x2 X.lives.length y2, .slice x3 X.tals.length y3] 27)) (Nat.le_refl _))
    have X4 := hide (Box.new w3 [.slice x1 X.clock.length y1, .slice x2 X.lives.length y2, .slice x3 X.tals.length y3] 27)
    clear HB3 S3 A3 B3 G3 M3 N3 P3
    have HB5 := hide (below_step HB4.out (Below.plus (Below.refl _ (w3.alloc (.cells #[.slice x1 X.clock.length y1, .slice x2 X.lives.length y2, .slice x3 X.tals.length y3] 27))) (.cells #[.int .i64 E, .int .i64 A] 31)))
    have S5 := hide (S4.out.below (Below.plus (Below.refl _ (w3.alloc (.cells #[.slice x1 X.clock.length y1, .slice x2 X.lives.length y2, .slice x3 X.tals.length y3] 27))) (.cells #[.int .i64 E, .int .i64 A] 31)) (Nat.le_refl _))
    have A5 := hide (A4.out.below (Below.plus (Below.refl _ (w3.alloc (.cells #[.slice x1 X.clock.length y1, .slice x2 X.lives.length y2, .slice x3 X.tals.length y3] 27))) (.cells #[.int .i64 E, .int .i64 A] 31)) (Nat.le_refl _))
    have B5 := hide (B4.out.below (Below.plus (Below.refl _ (w3.alloc (.cells #[.slice x1 X.clock.length y1, .slice x2 X.lives.length y2, .slice x3 X.tals.length y3] 27))) (.cells #[.int .i64 E, .int .i64 A] 31)) (Nat.le_refl _))
    have G5 := hide (G4.out.below (Below.plus (Below.refl _ (w3.alloc (.cells #[.slice x1 X.clock.length y1, .slice x2 X.lives.length y2, .slice x3 X.tals.length y3] 27))) (.cells #[.int .i64 E, .int .i64 A] 31)) (Nat.le_refl _))
    have M5 := hide (M4.out.below (Below.plus (Below.refl _ (w3.alloc (.cells #[.slice x1 X.clock.length y1, .slice x2 X.lives.length y2, .slice x3 X.tals.length y3] 27))) (.cells #[.int .i64 E, .int .i64 A] 31)) (Nat.le_refl _))
    have N5 := hide (N4.out.below (Below.plus (Below.refl _ (w3.alloc (.cells #[.slice x1 X.clock.length y1, .slice x2 X.lives.length y2, .slice x3 X.tals.length y3] 27))) (.cells #[.int .i64 E, .int .i64 A] 31)) (Nat.le_refl _))
    have P5 := hide (P4.out.below (Below.plus (Below.refl _ (w3.alloc (.cells #[.slice x1 X.clock.length y1, .slice x2 X.lives.length y2, .slice x3 X.tals.length y3] 27))) (.cells #[.int .i64 E, .int .i64 A] 31)) (Nat.le_refl _))
    have X5 := hide (X4.out.below (Below.plus (Below.refl _ (w3.alloc (.cells #[.slice x1 X.clock.length y1, .slice x2 X.lives.length y2, .slice x3 X.tals.length y3] 27))) (.cells #[.int .i64 E, .int .i64 A] 31)) (Nat.le_refl _))
    have F5 := hide (Box.new (w3.alloc (.cells #[.slice x1 X.clock.length y1, .slice x2 X.lives.length y2, .slice x3 X.tals.length y3] 27)) [.int .i64 E, .int .i64 A] 31)
    clear HB4 S4 A4 B4 G4 M4 N4 P4 X4
    simp only [World.size_alloc] at F5
    have cG0 := G5.out.get 0 rfl
    have cG1 := G5.out.get 1 rfl
    have cG2 := G5.out.get 2 rfl
    have cM0 := M5.out.get 0 rfl
    have cM1 := M5.out.get 1 rfl
    have cM2 := M5.out.get 2 rfl
    have cM3 := M5.out.get 3 rfl
    have cM4 := M5.out.get 4 rfl
    have cN0 := N5.out.get 0 rfl
    have cN1 := N5.out.get 1 rfl
    have cN2 := N5.out.get 2 rfl
    have cN3 := N5.out.get 3 rfl
    have cN4 := N5.out.get 4 rfl
    have hb6 := Below.plus (Below.refl (((w3.alloc (.cells #[.slice x1 X.clock.length y1, .slice x2 X.lives.length y2, .slice x3 X.tals.length y3] 27)).alloc (.cells #[.int .i64 E, .int .i64 A] 31))).heap.size ((w3.alloc (.cells #[.slice x1 X.clock.length y1, .slice x2 X.lives.length y2, .slice x3 X.tals.length y3] 27)).alloc (.cells #[.int .i64 E, .int .i64 A] 31))) (.cells #[.int .i64 b.author, .slice a5 b.seen.length cap5, .int .i64 b.kind, .int .i64 b.key, .int .i64 b.item, .int .i64 a.author, .slice a4 a.seen.length cap4, .int .i64 a.kind, .int .i64 a.key, .int .i64 a.item] 47)
    have L5 := hide (log_two (Box.new ((w3.alloc (.cells #[.slice x1 X.clock.length y1, .slice x2 X.lives.length y2, .slice x3 X.tals.length y3] 27)).alloc (.cells #[.int .i64 E, .int .i64 A] 31)) [.int .i64 b.author, .slice a5 b.seen.length cap5, .int .i64 b.kind, .int .i64 b.key, .int .i64 b.item, .int .i64 a.author, .slice a4 a.seen.length cap4, .int .i64 a.kind, .int .i64 a.key, .int .i64 a.item] 47) (B5.out.below hb6 (Nat.le_refl _)) (A5.out.below hb6 (Nat.le_refl _)))
    clear hb6
    simp only [World.size_alloc] at L5
    have HB6 := hide (below_step HB5.out (Below.plus (Below.refl _ ((w3.alloc (.cells #[.slice x1 X.clock.length y1, .slice x2 X.lives.length y2, .slice x3 X.tals.length y3] 27)).alloc (.cells #[.int .i64 E, .int .i64 A] 31))) (.cells #[.int .i64 b.author, .slice a5 b.seen.length cap5, .int .i64 b.kind, .int .i64 b.key, .int .i64 b.item, .int .i64 a.author, .slice a4 a.seen.length cap4, .int .i64 a.kind, .int .i64 a.key, .int .i64 a.item] 47)))
    have S6 := hide (S5.out.below (Below.plus (Below.refl _ ((w3.alloc (.cells #[.slice x1 X.clock.length y1, .slice x2 X.lives.length y2, .slice x3 X.tals.length y3] 27)).alloc (.cells #[.int .i64 E, .int .i64 A] 31))) (.cells #[.int .i64 b.author, .slice a5 b.seen.length cap5, .int .i64 b.kind, .int .i64 b.key, .int .i64 b.item, .int .i64 a.author, .slice a4 a.seen.length cap4, .int .i64 a.kind, .int .i64 a.key, .int .i64 a.item] 47)) (Nat.le_refl _))
    have A6 := hide (A5.out.below (Below.plus (Below.refl _ ((w3.alloc (.cells #[.slice x1 X.clock.length y1, .slice x2 X.lives.length y2, .slice x3 X.tals.length y3] 27)).alloc (.cells #[.int .i64 E, .int .i64 A] 31))) (.cells #[.int .i64 b.author, .slice a5 b.seen.length cap5, .int .i64 b.kind, .int .i64 b.key, .int .i64 b.item, .int .i64 a.author, .slice a4 a.seen.length cap4, .int .i64 a.kind, .int .i64 a.key, .int .i64 a.item] 47)) (Nat.le_refl _))
    have B6 := hide (B5.out.below (Below.plus (Below.refl _ ((w3.alloc (.cells #[.slice x1 X.clock.length y1, .slice x2 X.lives.length y2, .slice x3 X.tals.length y3] 27)).alloc (.cells #[.int .i64 E, .int .i64 A] 31))) (.cells #[.int .i64 b.author, .slice a5 b.seen.length cap5, .int .i64 b.kind, .int .i64 b.key, .int .i64 b.item, .int .i64 a.author, .slice a4 a.seen.length cap4, .int .i64 a.kind, .int .i64 a.key, .int .i64 a.item] 47)) (Nat.le_refl _))
    have G6 := hide (G5.out.below (Below.plus (Below.refl _ ((w3.alloc (.cells #[.slice x1 X.clock.length y1, .slice x2 X.lives.length y2, .slice x3 X.tals.length y3] 27)).alloc (.cells #[.int .i64 E, .int .i64 A] 31))) (.cells #[.int .i64 b.author, .slice a5 b.seen.length cap5, .int .i64 b.kind, .int .i64 b.key, .int .i64 b.item, .int .i64 a.author, .slice a4 a.seen.length cap4, .int .i64 a.kind, .int .i64 a.key, .int .i64 a.item] 47)) (Nat.le_refl _))
    have M6 := hide (M5.out.below (Below.plus (Below.refl _ ((w3.alloc (.cells #[.slice x1 X.clock.length y1, .slice x2 X.lives.length y2, .slice x3 X.tals.length y3] 27)).alloc (.cells #[.int .i64 E, .int .i64 A] 31))) (.cells #[.int .i64 b.author, .slice a5 b.seen.length cap5, .int .i64 b.kind, .int .i64 b.key, .int .i64 b.item, .int .i64 a.author, .slice a4 a.seen.length cap4, .int .i64 a.kind, .int .i64 a.key, .int .i64 a.item] 47)) (Nat.le_refl _))
    have N6 := hide (N5.out.below (Below.plus (Below.refl _ ((w3.alloc (.cells #[.slice x1 X.clock.length y1, .slice x2 X.lives.length y2, .slice x3 X.tals.length y3] 27)).alloc (.cells #[.int .i64 E, .int .i64 A] 31))) (.cells #[.int .i64 b.author, .slice a5 b.seen.length cap5, .int .i64 b.kind, .int .i64 b.key, .int .i64 b.item, .int .i64 a.author, .slice a4 a.seen.length cap4, .int .i64 a.kind, .int .i64 a.key, .int .i64 a.item] 47)) (Nat.le_refl _))
    have P6 := hide (P5.out.below (Below.plus (Below.refl _ ((w3.alloc (.cells #[.slice x1 X.clock.length y1, .slice x2 X.lives.length y2, .slice x3 X.tals.length y3] 27)).alloc (.cells #[.int .i64 E, .int .i64 A] 31))) (.cells #[.int .i64 b.author, .slice a5 b.seen.length cap5, .int .i64 b.kind, .int .i64 b.key, .int .i64 b.item, .int .i64 a.author, .slice a4 a.seen.length cap4, .int .i64 a.kind, .int .i64 a.key, .int .i64 a.item] 47)) (Nat.le_refl _))
    have X6 := hide (X5.out.below (Below.plus (Below.refl _ ((w3.alloc (.cells #[.slice x1 X.clock.length y1, .slice x2 X.lives.length y2, .slice x3 X.tals.length y3] 27)).alloc (.cells #[.int .i64 E, .int .i64 A] 31))) (.cells #[.int .i64 b.author, .slice a5 b.seen.length cap5, .int .i64 b.kind, .int .i64 b.key, .int .i64 b.item, .int .i64 a.author, .slice a4 a.seen.length cap4, .int .i64 a.kind, .int .i64 a.key, .int .i64 a.item] 47)) (Nat.le_refl _))
    have F6 := hide (F5.out.below (Below.plus (Below.refl _ ((w3.alloc (.cells #[.slice x1 X.clock.length y1, .slice x2 X.lives.length y2, .slice x3 X.tals.length y3] 27)).alloc (.cells #[.int .i64 E, .int .i64 A] 31))) (.cells #[.int .i64 b.author, .slice a5 b.seen.length cap5, .int .i64 b.kind, .int .i64 b.key, .int .i64 b.item, .int .i64 a.author, .slice a4 a.seen.length cap4, .int .i64 a.kind, .int .i64 a.key, .int .i64 a.item] 47)) (Nat.le_refl _))
    have D6 := hide (Box.new ((w3.alloc (.cells #[.slice x1 X.clock.length y1, .slice x2 X.lives.length y2, .slice x3 X.tals.length y3] 27)).alloc (.cells #[.int .i64 E, .int .i64 A] 31)) [.int .i64 b.author, .slice a5 b.seen.length cap5, .int .i64 b.kind, .int .i64 b.key, .int .i64 b.item, .int .i64 a.author, .slice a4 a.seen.length cap4, .int .i64 a.kind, .int .i64 a.key, .int .i64 a.item] 47)
    clear HB5 S5 A5 B5 G5 M5 N5 P5 X5 F5
    go_wp2_with fail
    refine (play_state _ _ s [b, a] _ S6.out L5.out).mono ?_
    rintro e w7 ⟨vR, rfl, hR, hb⟩
    have HB7 := hide (below_step HB6.out hb)
    have S7 := hide (S6.out.below hb (Nat.le_refl _))
    have A7 := hide (A6.out.below hb (Nat.le_refl _))
    have B7 := hide (B6.out.below hb (Nat.le_refl _))
    have G7 := hide (G6.out.below hb (Nat.le_refl _))
    have M7 := hide (M6.out.below hb (Nat.le_refl _))
    have N7 := hide (N6.out.below hb (Nat.le_refl _))
    have P7 := hide (P6.out.below hb (Nat.le_refl _))
    have X7 := hide (X6.out.below hb (Nat.le_refl _))
    have F7 := hide (F6.out.below hb (Nat.le_refl _))
    have D7 := hide (D6.out.below hb (Nat.le_refl _))
    have R7 := hide hR
    clear HB6 hb S6 A6 B6 G6 M6 N6 P6 X6 F6 D6
    rw [HE2.out, HA2.out]
    rw [HY.out] at R7
    clear cG0 cG1 cG2
    clear cM0 cM1 cM2 cM3 cM4
    clear cN0 cN1 cN2 cN3 cN4
    obtain ⟨z1, t1, z2, t2, z3, t3, hvr⟩ := R7.out.form
    subst hvr
    clear hR L5
    clear D7
    have HB8 := hide (below_step HB7.out (Below.plus (Below.refl _ w7) (.cells #[.slice z1 Y.clock.length t1, .slice z2 Y.lives.length t2, .slice z3 Y.tals.length t3] 27)))
    have S8 := hide (S7.out.below (Below.plus (Below.refl _ w7) (.cells #[.slice z1 Y.clock.length t1, .slice z2 Y.lives.length t2, .slice z3 Y.tals.length t3] 27)) (Nat.le_refl _))
    have A8 := hide (A7.out.below (Below.plus (Below.refl _ w7) (.cells #[.slice z1 Y.clock.length t1, .slice z2 Y.lives.length t2, .slice z3 Y.tals.length t3] 27)) (Nat.le_refl _))
    have B8 := hide (B7.out.below (Below.plus (Below.refl _ w7) (.cells #[.slice z1 Y.clock.length t1, .slice z2 Y.lives.length t2, .slice z3 Y.tals.length t3] 27)) (Nat.le_refl _))
    have G8 := hide (G7.out.below (Below.plus (Below.refl _ w7) (.cells #[.slice z1 Y.clock.length t1, .slice z2 Y.lives.length t2, .slice z3 Y.tals.length t3] 27)) (Nat.le_refl _))
    have M8 := hide (M7.out.below (Below.plus (Below.refl _ w7) (.cells #[.slice z1 Y.clock.length t1, .slice z2 Y.lives.length t2, .slice z3 Y.tals.length t3] 27)) (Nat.le_refl _))
    have N8 := hide (N7.out.below (Below.plus (Below.refl _ w7) (.cells #[.slice z1 Y.clock.length t1, .slice z2 Y.lives.length t2, .slice z3 Y.tals.length t3] 27)) (Nat.le_refl _))
    have P8 := hide (P7.out.below (Below.plus (Below.refl _ w7) (.cells #[.slice z1 Y.clock.length t1, .slice z2 Y.lives.length t2, .slice z3 Y.tals.length t3] 27)) (Nat.le_refl _))
    have X8 := hide (X7.out.below (Below.plus (Below.refl _ w7) (.cells #[.slice z1 Y.clock.length t1, .slice z2 Y.lives.length t2, .slice z3 Y.tals.length t3] 27)) (Nat.le_refl _))
    have F8 := hide (F7.out.below (Below.plus (Below.refl _ w7) (.cells #[.slice z1 Y.clock.length t1, .slice z2 Y.lives.length t2, .slice z3 Y.tals.length t3] 27)) (Nat.le_refl _))
    have R8 := hide (R7.out.below (Below.plus (Below.refl _ w7) (.cells #[.slice z1 Y.clock.length t1, .slice z2 Y.lives.length t2, .slice z3 Y.tals.length t3] 27)) (Nat.le_refl _))
    have Y8 := hide (Box.new w7 [.slice z1 Y.clock.length t1, .slice z2 Y.lives.length t2, .slice z3 Y.tals.length t3] 27)
    clear HB7 S7 A7 B7 G7 M7 N7 P7 X7 F7 R7
    have HB9 := hide (below_step HB8.out (Below.plus (Below.refl _ (w7.alloc (.cells #[.slice z1 Y.clock.length t1, .slice z2 Y.lives.length t2, .slice z3 Y.tals.length t3] 27))) (.cells #[.int .i64 E2, .int .i64 A2] 31)))
    have S9 := hide (S8.out.below (Below.plus (Below.refl _ (w7.alloc (.cells #[.slice z1 Y.clock.length t1, .slice z2 Y.lives.length t2, .slice z3 Y.tals.length t3] 27))) (.cells #[.int .i64 E2, .int .i64 A2] 31)) (Nat.le_refl _))
    have A9 := hide (A8.out.below (Below.plus (Below.refl _ (w7.alloc (.cells #[.slice z1 Y.clock.length t1, .slice z2 Y.lives.length t2, .slice z3 Y.tals.length t3] 27))) (.cells #[.int .i64 E2, .int .i64 A2] 31)) (Nat.le_refl _))
    have B9 := hide (B8.out.below (Below.plus (Below.refl _ (w7.alloc (.cells #[.slice z1 Y.clock.length t1, .slice z2 Y.lives.length t2, .slice z3 Y.tals.length t3] 27))) (.cells #[.int .i64 E2, .int .i64 A2] 31)) (Nat.le_refl _))
    have G9 := hide (G8.out.below (Below.plus (Below.refl _ (w7.alloc (.cells #[.slice z1 Y.clock.length t1, .slice z2 Y.lives.length t2, .slice z3 Y.tals.length t3] 27))) (.cells #[.int .i64 E2, .int .i64 A2] 31)) (Nat.le_refl _))
    have M9 := hide (M8.out.below (Below.plus (Below.refl _ (w7.alloc (.cells #[.slice z1 Y.clock.length t1, .slice z2 Y.lives.length t2, .slice z3 Y.tals.length t3] 27))) (.cells #[.int .i64 E2, .int .i64 A2] 31)) (Nat.le_refl _))
    have N9 := hide (N8.out.below (Below.plus (Below.refl _ (w7.alloc (.cells #[.slice z1 Y.clock.length t1, .slice z2 Y.lives.length t2, .slice z3 Y.tals.length t3] 27))) (.cells #[.int .i64 E2, .int .i64 A2] 31)) (Nat.le_refl _))
    have P9 := hide (P8.out.below (Below.plus (Below.refl _ (w7.alloc (.cells #[.slice z1 Y.clock.length t1, .slice z2 Y.lives.length t2, .slice z3 Y.tals.length t3] 27))) (.cells #[.int .i64 E2, .int .i64 A2] 31)) (Nat.le_refl _))
    have X9 := hide (X8.out.below (Below.plus (Below.refl _ (w7.alloc (.cells #[.slice z1 Y.clock.length t1, .slice z2 Y.lives.length t2, .slice z3 Y.tals.length t3] 27))) (.cells #[.int .i64 E2, .int .i64 A2] 31)) (Nat.le_refl _))
    have F9 := hide (F8.out.below (Below.plus (Below.refl _ (w7.alloc (.cells #[.slice z1 Y.clock.length t1, .slice z2 Y.lives.length t2, .slice z3 Y.tals.length t3] 27))) (.cells #[.int .i64 E2, .int .i64 A2] 31)) (Nat.le_refl _))
    have R9 := hide (R8.out.below (Below.plus (Below.refl _ (w7.alloc (.cells #[.slice z1 Y.clock.length t1, .slice z2 Y.lives.length t2, .slice z3 Y.tals.length t3] 27))) (.cells #[.int .i64 E2, .int .i64 A2] 31)) (Nat.le_refl _))
    have Y9 := hide (Y8.out.below (Below.plus (Below.refl _ (w7.alloc (.cells #[.slice z1 Y.clock.length t1, .slice z2 Y.lives.length t2, .slice z3 Y.tals.length t3] 27))) (.cells #[.int .i64 E2, .int .i64 A2] 31)) (Nat.le_refl _))
    have J9 := hide (Box.new (w7.alloc (.cells #[.slice z1 Y.clock.length t1, .slice z2 Y.lives.length t2, .slice z3 Y.tals.length t3] 27)) [.int .i64 E2, .int .i64 A2] 31)
    clear HB8 S8 A8 B8 G8 M8 N8 P8 X8 F8 R8 Y8
    simp only [World.size_alloc] at J9
    have cF0 := F9.out.get 0 rfl
    have cF1 := F9.out.get 1 rfl
    have cJ0 := J9.out.get 0 rfl
    have cJ1 := J9.out.get 1 rfl
    have cX0 := X9.out.get 0 rfl
    have cX1 := X9.out.get 1 rfl
    have cX2 := X9.out.get 2 rfl
    have cY0 := Y9.out.get 0 rfl
    have cY1 := Y9.out.get 1 rfl
    have cY2 := Y9.out.get 2 rfl
    by_cases hE : E = 0
    · by_cases hE2 : E2 = 0
      · have hxy := HXY.out hE hE2
        subst hE hE2 hxy
        go_wp2_with fail
        refine (same_st _ _ X _ P9.out.st R9.out.st).mono ?_
        rintro e w10 ⟨rfl, hb10⟩
        have HB10 := hide (below_step HB9.out hb10)
        clear hb10
        go_wp2_with fail
        go_ret
        exact ⟨rfl, HB10.out⟩
      · have h2 : (E2 != 0) = true := by simp [hE2]
        subst hE
        clear hE2
        go_wp2_with fail
        go_ret
        exact ⟨rfl, HB9.out⟩
    · have h2 : (E != 0) = true := by simp [hE]
      clear hE
      go_wp2_with fail
      go_ret
      exact ⟨rfl, HB9.out⟩
end Go.Proofs.Ytkhhifkihpfdhaa
