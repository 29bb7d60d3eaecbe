/- StateParts, walked: one by one as all at once. -/
import Derived.Test.YtkhhifkihpfdhaaLawSO
namespace Go.Proofs.Ytkhhifkihpfdhaa
open Go.RowKit

/-- The state behind the first so many. -/
def partS (s : StS) (l : List Upd) (k : Nat) : StS := ⟨tickL s.clock (l.take k), playLv s.lives (l.take k), playT s.tals (l.take k)⟩
theorem parts_main {s : StS} {l : List Upd} (h : playE s l = 0) {k : Nat} {u : Upd} (hk : l[k]? = some u) :
    playE (partS s l k) [u] = 0 ∧ playX (partS s l k) [u] = partS s l (k + 1) ∧ stE (partS s l (k + 1)) s.clock.length = 0 ∧ tickC (partS s l k).clock u.author = (partS s l (k + 1)).clock := by
  obtain ⟨h1, h2, h3⟩ := playE_zero.1 h
  obtain ⟨hlt, rfl⟩ := List.getElem?_eq_some_iff.1 hk
  have ht : l.take (k + 1) = l.take k ++ [l[k]] := List.take_succ_eq_append_getElem hlt
  have he1 : errL s.clock.length s.clock (l.take (k + 1)) = 0 := by
    rw [← List.take_append_drop (k + 1) l] at h3
    exact (errL_split h3).1
  have okk1 := OkS.play _ h1 he1
  rw [ht] at he1
  obtain ⟨ea, eb⟩ := errL_split he1
  have okk := OkS.play _ h1 ea
  have hlen : (partS s l k).clock.length = s.clock.length := tickL_length _ _
  have e0 : playE (partS s l k) [l[k]] = 0 := playE_zero.2 ⟨by rw [hlen]; exact okk, by simp, by rw [hlen]; exact eb⟩
  refine ⟨e0, ?_, stE_ok.2 okk1, ?_⟩
  · rw [playX_zero e0]
    unfold partS
    rw [ht, tickL_append, playLv_append, playT_append]
  · unfold partS
    simp only
    rw [ht, tickL_append]
    rfl
theorem partS_all {s : StS} {l : List Upd} (h : playE s l = 0) : partS s l l.length = playX s l := by
  rw [playX_zero h]
  unfold partS
  rw [List.take_length]
theorem partS_zero (s : StS) (l : List Upd) : partS s l 0 = s := by
  unfold partS
  simp [tickL, playLv, playT]
theorem partS_len (s : StS) (l : List Upd) (k : Nat) : (partS s l k).clock.length = s.clock.length := tickL_length _ _

set_option maxRecDepth 100000 in
set_option maxHeartbeats 2000000 in
theorem sparts_law (v ul : Value) (s : StS) (l : List Upd) (w0 : World) (h : IsSt w0 v s) (hl : LogV w0 ul l) :
    Calls Try.prog 5 #[v, ul] w0 fun e w' => e = .returned (.bool true) ∧ Below w0.heap.size w0 w' := by
  have hin := h
  obtain ⟨cv, lv, tv, rfl, hc, hv, ht⟩ := h
  obtain ⟨a1, cap1, rfl, -, -, -⟩ := id hc
  obtain ⟨a2, cap2, rfl, -, -, -⟩ := id hv
  obtain ⟨a3, cap3, rfl, -, -, -⟩ := id ht
  obtain ⟨a4, cap4, rfl, -, -, -⟩ := id hl
  have hb := Below.plus (Below.refl w0.heap.size w0) (.cells #[.slice a1 s.clock.length cap1, .slice a2 s.lives.length cap2, .slice a3 s.tals.length cap3] 27)
  have S0 := hide (hin.below hb (Nat.le_refl _))
  have U0 := hide (hl.below hb (Nat.le_refl _))
  have G0 := hide (Box.new w0 [.slice a1 s.clock.length cap1, .slice a2 s.lives.length cap2, .slice a3 s.tals.length cap3] 27)
  have HB0 := hide hb
  clear hin hc hv ht hl hb
  obtain ⟨E, HE⟩ : ∃ E, Hid (playE s l = E) := ⟨_, rfl⟩
  obtain ⟨A, HA⟩ : ∃ A, Hid (playA s l = A) := ⟨_, rfl⟩
  by_cases hE : E = 0
  · subst hE
    obtain ⟨X, HX⟩ : ∃ X, Hid (playX s l = X) := ⟨_, rfl⟩
    go_enter Try.func5, Try.ntmps5
    go_wp2_with fail
    refine (alive4 _).mono ?_
    rintro e w1 ⟨rfl, hb⟩
    have HB1 := hide (below_step HB0.out hb)
    have S1 := hide (S0.out.below hb (Nat.le_refl _))
    have U1 := hide (U0.out.below hb (Nat.le_refl _))
    have G1 := hide (G0.out.below hb (Nat.le_refl _))
    clear HB0 hb S0 U0 G0
    have cG0 := G1.out.get 0 rfl
    have cG1 := G1.out.get 1 rfl
    have cG2 := G1.out.get 2 rfl
    go_wp2_with fail
    refine (play_state _ _ s l _ S1.out U1.out).mono ?_
    rintro e w2 ⟨vP, rfl, hP, hb⟩
    have HB2 := hide (below_step HB1.out hb)
    have S2 := hide (S1.out.below hb (Nat.le_refl _))
    have U2 := hide (U1.out.below hb (Nat.le_refl _))
    have G2 := hide (G1.out.below hb (Nat.le_refl _))
    have P2 := hide hP
    clear HB1 hb S1 U1 G1
    rw [HE.out, HA.out]
    rw [HX.out] at P2
    clear cG0 cG1 cG2
    obtain ⟨x1, y1, x2, y2, x3, y3, hvp⟩ := P2.out.form
    subst hvp
    clear hP
    have HB3 := hide (below_step HB2.out (Below.plus (Below.refl _ w2) (.cells #[.slice x1 X.clock.length y1, .slice x2 X.lives.length y2, .slice x3 X.tals.length y3] 27)))
    have S3 := hide (S2.out.below (Below.plus (Below.refl _ w2) (.cells #[.slice x1 X.clock.length y1, .slice x2 X.lives.length y2, .slice x3 X.tals.length y3] 27)) (Nat.le_refl _))
    have U3 := hide (U2.out.below (Below.plus (Below.refl _ w2) (.cells #[.slice x1 X.clock.length y1, .slice x2 X.lives.length y2, .slice x3 X.tals.length y3] 27)) (Nat.le_refl _))
    have G3 := hide (G2.out.below (Below.plus (Below.refl _ w2) (.cells #[.slice x1 X.clock.length y1, .slice x2 X.lives.length y2, .slice x3 X.tals.length y3] 27)) (Nat.le_refl _))
    have P3 := hide (P2.out.below (Below.plus (Below.refl _ w2) (.cells #[.slice x1 X.clock.length y1, .slice x2 X.lives.length y2, .slice x3 X.tals.length y3] 27)) (Nat.le_refl _))
    have X3 := hide (Box.new w2 [.slice x1 X.clock.length y1, .slice x2 X.lives.length y2, .slice x3 X.tals.length y3] 27)
    clear HB2 S2 U2 G2 P2
    have HB4 := hide (below_step HB3.out (Below.plus (Below.refl _ (w2.alloc (.cells #[.slice x1 X.clock.length y1, .slice x2 X.lives.length y2, .slice x3 X.tals.length y3] 27))) (.cells #[.int .i64 0, .int .i64 A] 31)))
    have S4 := hide (S3.out.below (Below.plus (Below.refl _ (w2.alloc (.cells #[.slice x1 X.clock.length y1, .slice x2 X.lives.length y2, .slice x3 X.tals.length y3] 27))) (.cells #[.int .i64 0, .int .i64 A] 31)) (Nat.le_refl _))
    have U4 := hide (U3.out.below (Below.plus (Below.refl _ (w2.alloc (.cells #[.slice x1 X.clock.length y1, .slice x2 X.lives.length y2, .slice x3 X.tals.length y3] 27))) (.cells #[.int .i64 0, .int .i64 A] 31)) (Nat.le_refl _))
    have G4 := hide (G3.out.below (Below.plus (Below.refl _ (w2.alloc (.cells #[.slice x1 X.clock.length y1, .slice x2 X.lives.length y2, .slice x3 X.tals.length y3] 27))) (.cells #[.int .i64 0, .int .i64 A] 31)) (Nat.le_refl _))
    have P4 := hide (P3.out.below (Below.plus (Below.refl _ (w2.alloc (.cells #[.slice x1 X.clock.length y1, .slice x2 X.lives.length y2, .slice x3 X.tals.length y3] 27))) (.cells #[.int .i64 0, .int .i64 A] 31)) (Nat.le_refl _))
    have X4 := hide (X3.out.below (Below.plus (Below.refl _ (w2.alloc (.cells #[.slice x1 X.clock.length y1, .slice x2 X.lives.length y2, .slice x3 X.tals.length y3] 27))) (.cells #[.int .i64 0, .int .i64 A] 31)) (Nat.le_refl _))
    have F4 := hide (Box.new (w2.alloc (.cells #[.slice x1 X.clock.length y1, .slice x2 X.lives.length y2, .slice x3 X.tals.length y3] 27)) [.int .i64 0, .int .i64 A] 31)
    clear HB3 S3 U3 G3 P3 X3
    simp only [World.size_alloc] at F4
    have cF0 := F4.out.get 0 rfl
    have cF1 := F4.out.get 1 rfl
    have cG0 := G4.out.get 0 rfl
    have cG1 := G4.out.get 1 rfl
    have cG2 := G4.out.get 2 rfl
    go_wp2_with fail
    obtain ⟨W4, HW4⟩ : ∃ W4, Hid ((w2.alloc (.cells #[.slice x1 X.clock.length y1, .slice x2 X.lives.length y2, .slice x3 X.tals.length y3] 27)).alloc (.cells #[.int .i64 0, .int .i64 A] 31) = W4) := ⟨_, rfl⟩
    have HSZ : Hid (W4.heap.size = w2.heap.size + 1 + 1) := by unfold Hid; rw [← HW4.out]; simp
    clear cF0 cF1 cG0 cG1 cG2 F4
    rw [HW4.out] at S4 U4 G4 P4 X4 HB4 ⊢
    rw [← HSZ.out]
    obtain ⟨gx, HGX⟩ : ∃ gx, Hid (W4.heap.size = gx) := ⟨_, rfl⟩
    have B4 := hide (Box.new W4 [.slice a1 s.clock.length cap1, .slice a2 s.lives.length cap2, .slice a3 s.tals.length cap3] 27)
    have Q4 := hide (S4.out.below (Below.plus (Below.refl _ W4) (.cells #[.slice a1 s.clock.length cap1, .slice a2 s.lives.length cap2, .slice a3 s.tals.length cap3] 27)) (Nat.le_refl _))
    have HB5 := hide (Below.plus (Below.refl W4.heap.size W4) (.cells #[.slice a1 s.clock.length cap1, .slice a2 s.lives.length cap2, .slice a3 s.tals.length cap3] 27))
    rw [HGX.out] at B4 HB5
    rw [HGX.out]
    have HLE : Hid (w0.heap.size ≤ gx) := by unfold Hid; rw [← HGX.out]; exact HB4.out.size
    have hll := U4.out.len_le
    go_loopw [26] (fun i wr => ∃ (k : Nat) (z1 z2 z3 : Option Addr) (t1 t2 t3 : Nat), k ≤ l.length ∧ i = .int .i64 k ∧ Hid (Box wr gx [.slice z1 (partS s l k).clock.length t1, .slice z2 (partS s l k).lives.length t2, .slice z3 (partS s l k).tals.length t3] 27) ∧ Hid (IsSt wr (.agg #[.slice z1 (partS s l k).clock.length t1, .slice z2 (partS s l k).lives.length t2, .slice z3 (partS s l k).tals.length t3]) (partS s l k)) ∧ Hid (Below gx W4 wr)) (fun i _ => l.length - (intOf i).toNat)
    case atStart => exact ⟨0, a1, a2, a3, cap1, cap2, cap3, Nat.zero_le _, rfl, by rw [partS_zero]; exact B4, by rw [partS_zero]; exact Q4, HB5⟩
    case round =>
      obtain ⟨k, z1, z2, z3, t1, t2, t3, hk, rfl, B20, Q20, HB20⟩ := hrel
      obtain ⟨w20, rfl⟩ : ∃ w20, w20 = wr := ⟨wr, rfl⟩
      have hge : W4.heap.size ≤ gx := Nat.le_of_eq HGX.out
      have S20 := hide (S4.out.below HB20.out hge)
      have U20 := hide (U4.out.below HB20.out hge)
      have G20 := hide (G4.out.below HB20.out hge)
      have P20 := hide (P4.out.below HB20.out hge)
      have X20 := hide (X4.out.below HB20.out hge)
      clear B4 Q4 HB5 S4 U4 G4 P4 X4
      rw [← HGX.out] at HB20
      have HGL := hide B20.out.lt
      by_cases hlt : k < l.length
      · obtain ⟨u, hu⟩ : ∃ u, l[k]? = some u := ⟨_, List.getElem?_eq_getElem hlt⟩
        obtain ⟨p1, p2, p3, p4⟩ := parts_main HE.out hu
        have HP1 := hide p1
        have HP2 := hide p2
        have HP3 := hide p3
        have HP4 := hide p4
        clear p1 p2 p3 p4
        obtain ⟨b, off, a5, cap5, rfl, d0, d1, d2, d3, d4, -, hU⟩ := U20.out.at hu
        have V20 := hide hU
        clear hU
        have hlt' : (k : Int) < (l.length : Int) := by omega
        obtain ⟨Y, HY⟩ : ∃ Y, Hid (partS s l k = Y) := ⟨_, rfl⟩
        obtain ⟨Z, HZ⟩ : ∃ Z, Hid (partS s l (k + 1) = Z) := ⟨_, rfl⟩
        rw [HY.out] at B20 Q20 HP1 HP2 HP4
        rw [HZ.out] at HP2 HP3 HP4
        have HB21 := hide (below_step HB20.out (Below.plus (Below.refl _ w20) (.cells #[.int .i64 u.author, .slice a5 u.seen.length cap5, .int .i64 u.kind, .int .i64 u.key, .int .i64 u.item] 47)))
        have S21 := hide (S20.out.below (Below.plus (Below.refl _ w20) (.cells #[.int .i64 u.author, .slice a5 u.seen.length cap5, .int .i64 u.kind, .int .i64 u.key, .int .i64 u.item] 47)) (Nat.le_refl _))
        have G21 := hide (G20.out.below (Below.plus (Below.refl _ w20) (.cells #[.int .i64 u.author, .slice a5 u.seen.length cap5, .int .i64 u.kind, .int .i64 u.key, .int .i64 u.item] 47)) (Nat.le_refl _))
        have Q21 := hide (Q20.out.below (Below.plus (Below.refl _ w20) (.cells #[.int .i64 u.author, .slice a5 u.seen.length cap5, .int .i64 u.kind, .int .i64 u.key, .int .i64 u.item] 47)) (Nat.le_refl _))
        have B21 := hide (B20.out.below (Below.plus (Below.refl _ w20) (.cells #[.int .i64 u.author, .slice a5 u.seen.length cap5, .int .i64 u.kind, .int .i64 u.key, .int .i64 u.item] 47)) (Nat.le_refl _))
        have V21 := hide (V20.out.below (Below.plus (Below.refl _ w20) (.cells #[.int .i64 u.author, .slice a5 u.seen.length cap5, .int .i64 u.kind, .int .i64 u.key, .int .i64 u.item] 47)) (Nat.le_refl _))
        have M21 := hide (Box.new w20 [.int .i64 u.author, .slice a5 u.seen.length cap5, .int .i64 u.kind, .int .i64 u.key, .int .i64 u.item] 47)
        clear HB20 S20 G20 Q20 B20 V20
        have cB0 := B21.out.get 0 rfl
        have cB1 := B21.out.get 1 rfl
        have cB2 := B21.out.get 2 rfl
        have cM0 := M21.out.get 0 rfl
        have cM1 := M21.out.get 1 rfl
        have cM2 := M21.out.get 2 rfl
        have cM3 := M21.out.get 3 rfl
        have cM4 := M21.out.get 4 rfl
        go_wp2_with fail
        refine (apply_state _ _ Y u _ Q21.out V21.out).mono ?_
        rintro e w22 ⟨vN, rfl, hN, hb⟩
        have HB22 := hide (below_step HB21.out hb)
        have S22 := hide (S21.out.below hb (Nat.le_refl _))
        have G22 := hide (G21.out.below hb (Nat.le_refl _))
        have Q22 := hide (Q21.out.below hb (Nat.le_refl _))
        have B22 := hide (B21.out.below hb (Nat.le_refl _))
        have V22 := hide (V21.out.below hb (Nat.le_refl _))
        have M22 := hide (M21.out.below hb (Nat.le_refl _))
        have N22 := hide hN
        clear HB21 hb S21 G21 Q21 B21 V21 M21
        rw [HP1.out]
        rw [HP2.out] at N22
        clear cB0 cB1 cB2
        clear cM0 cM1 cM2 cM3 cM4
        obtain ⟨q1, r1, q2, r2, q3, r3, hvn⟩ := N22.out.form
        subst hvn
        clear hN
        have HB23 := hide (below_step HB22.out (Below.plus (Below.refl _ w22) (.cells #[.slice q1 Z.clock.length r1, .slice q2 Z.lives.length r2, .slice q3 Z.tals.length r3] 27)))
        have S23 := hide (S22.out.below (Below.plus (Below.refl _ w22) (.cells #[.slice q1 Z.clock.length r1, .slice q2 Z.lives.length r2, .slice q3 Z.tals.length r3] 27)) (Nat.le_refl _))
        have G23 := hide (G22.out.below (Below.plus (Below.refl _ w22) (.cells #[.slice q1 Z.clock.length r1, .slice q2 Z.lives.length r2, .slice q3 Z.tals.length r3] 27)) (Nat.le_refl _))
        have Q23 := hide (Q22.out.below (Below.plus (Below.refl _ w22) (.cells #[.slice q1 Z.clock.length r1, .slice q2 Z.lives.length r2, .slice q3 Z.tals.length r3] 27)) (Nat.le_refl _))
        have B23 := hide (B22.out.below (Below.plus (Below.refl _ w22) (.cells #[.slice q1 Z.clock.length r1, .slice q2 Z.lives.length r2, .slice q3 Z.tals.length r3] 27)) (Nat.le_refl _))
        have V23 := hide (V22.out.below (Below.plus (Below.refl _ w22) (.cells #[.slice q1 Z.clock.length r1, .slice q2 Z.lives.length r2, .slice q3 Z.tals.length r3] 27)) (Nat.le_refl _))
        have M23 := hide (M22.out.below (Below.plus (Below.refl _ w22) (.cells #[.slice q1 Z.clock.length r1, .slice q2 Z.lives.length r2, .slice q3 Z.tals.length r3] 27)) (Nat.le_refl _))
        have N23 := hide (N22.out.below (Below.plus (Below.refl _ w22) (.cells #[.slice q1 Z.clock.length r1, .slice q2 Z.lives.length r2, .slice q3 Z.tals.length r3] 27)) (Nat.le_refl _))
        have K23 := hide (Box.new w22 [.slice q1 Z.clock.length r1, .slice q2 Z.lives.length r2, .slice q3 Z.tals.length r3] 27)
        clear HB22 S22 G22 Q22 B22 V22 M22 N22
        have hx6 : Y.clock.length * 8 ≤ 140737488351232 := by
          have h1 := partS_len s l k
          rw [HY.out] at h1
          have h2 := (playE_zero.1 HE.out).1.clock
          have h3 := (wrongC_ok h2).2.1
          omega
        have HX6 := hide hx6
        obtain ⟨A2, HA2⟩ : ∃ A2, Hid (stA Z s.clock.length = A2) := ⟨_, rfl⟩
        obtain ⟨W5, HW5⟩ : ∃ W5, Hid (w22.alloc (.cells #[.slice q1 Z.clock.length r1, .slice q2 Z.lives.length r2, .slice q3 Z.tals.length r3] 27) = W5) := ⟨_, rfl⟩
        clear hx6
        rw [HW5.out] at S23 G23 Q23 B23 V23 M23 N23 K23 HB23
        obtain ⟨gk, HGK⟩ : ∃ gk, Hid (w22.heap.size = gk) := ⟨_, rfl⟩
        rw [HGK.out] at K23
        have HK : Hid (∀ w', Grew W5 w' → (w'.cell? ⟨gk, 0, none⟩ = some (.slice q1 Z.clock.length r1) ∧ w'.cell? ⟨gk, 1, none⟩ = some (.slice q2 Z.lives.length r2) ∧ w'.cell? ⟨gk, 2, none⟩ = some (.slice q3 Z.tals.length r3)) ∧ w'.cell? ⟨w0.heap.size, 0, none⟩ = some (.slice a1 s.clock.length cap1) ∧ w'.cell? ⟨gx, 0, none⟩ = some (.slice z1 Y.clock.length t1) ∧ w'.cell? ⟨w20.heap.size, 0, none⟩ = some (.int .i64 u.author)) := fun w' hg =>
          ⟨⟨(K23.out.below hg (Nat.le_refl _)).get 0 rfl, (K23.out.below hg (Nat.le_refl _)).get 1 rfl, (K23.out.below hg (Nat.le_refl _)).get 2 rfl⟩, (G23.out.below hg (Nat.le_refl _)).get 0 rfl, (B23.out.below hg (Nat.le_refl _)).get 0 rfl, (M23.out.below hg (Nat.le_refl _)).get 0 rfl⟩
        have H1 : Hid (∀ w', Grew W5 w' → Calls Try.prog 10 #[.agg #[.slice q1 Z.clock.length r1, .slice q2 Z.lives.length r2, .slice q3 Z.tals.length r3], .int .i64 s.clock.length] w' fun e w'' => e = .returned (.agg #[.int .i64 0, .int .i64 A2]) ∧ Grew W5 w'') := fun w' hg => by
          refine (wrong_state _ Z _ w' (N23.out.st.below hg (Nat.le_refl _))).mono ?_
          rintro e w'' ⟨rfl, hb⟩
          rw [HP3.out, HA2.out]
          exact ⟨rfl, grew_step hg hb⟩
        have H2 : Hid (∀ w', Grew W5 w' → Calls Try.prog 23 #[.slice z1 Y.clock.length t1, .int .i64 u.author] w' fun e w'' => ∃ r, e = .returned r ∧ Hid (∀ w3, Grew w'' w3 → Row w3 r Z.clock) ∧ Grew W5 w'') := fun w' hg => by
          obtain ⟨cv, lv, tv, hag, hc, -, -⟩ := Q23.out.below hg (Nat.le_refl _)
          simp only [Value.agg.injEq, Array.mk.injEq, List.cons.injEq, and_true] at hag
          obtain ⟨rfl, -, -⟩ := hag
          refine (tick_clock _ Y.clock u.author w' hc HX6.out).mono ?_
          rintro e w'' ⟨r, rfl, ho, hb⟩
          rw [HP4.out] at ho
          exact ⟨r, rfl, fun w3 h3 => ho.row.below h3 (Nat.le_refl _), grew_step hg hb⟩
        have H3 : Hid (∀ w' r, Row w' r Z.clock → Grew W5 w' → Calls Try.prog 22 #[.slice q1 Z.clock.length r1, r] w' fun e w'' => e = .returned (.bool true) ∧ Grew W5 w'') := fun w' r hr hg => by
          obtain ⟨cv, lv, tv, hag, hc, -, -⟩ := N23.out.st.below hg (Nat.le_refl _)
          simp only [Value.agg.injEq, Array.mk.injEq, List.cons.injEq, and_true] at hag
          obtain ⟨rfl, -, -⟩ := hag
          refine (same_yes _ _ Z.clock w' hc hr).mono ?_
          rintro e w'' ⟨rfl, hb⟩
          exact ⟨rfl, grew_step hg hb⟩
        have hfd : ∀ w : World, (Instr.field 31 (.agg #[.int .i64 0, .int .i64 A2]) 0).run Try.prog w = .ok (.int .i64 0) w := fun _ => by kernel_rfl
        go_upto_region 11 with fail
        rw [HW5.out, HGK.out]
        go_cut [57] (fun c wx => c = .bool false ∧ Hid (Grew W5 wx))
        case first =>
          go_region_held3 (fun w' => (w'.cell? ⟨gk, 0, none⟩ = some (.slice q1 Z.clock.length r1) ∧ w'.cell? ⟨gk, 1, none⟩ = some (.slice q2 Z.lives.length r2) ∧ w'.cell? ⟨gk, 2, none⟩ = some (.slice q3 Z.tals.length r3)) ∧ w'.cell? ⟨w0.heap.size, 0, none⟩ = some (.slice a1 s.clock.length cap1) ∧ w'.cell? ⟨gx, 0, none⟩ = some (.slice z1 Y.clock.length t1) ∧ w'.cell? ⟨w20.heap.size, 0, none⟩ = some (.int .i64 u.author))
            ((refine HK.out _ ?_; (first | assumption | exact grew_drew (grew_refl _) | exact grew_drew (by assumption))))
            (first
              | (go_at_call 10; refine (H1.out _ ?_).mono ?_; (first | assumption | exact grew_drew (grew_refl _) | exact grew_drew (by assumption)); rintro e w' ⟨rfl, hgr⟩)
              | (go_at_call 23; refine (H2.out _ ?_).mono ?_; (first | assumption | exact grew_drew (grew_refl _) | exact grew_drew (by assumption)); rintro e w' ⟨r, rfl, hrow, hgr⟩)
              | (go_at_call 22; refine (H3.out _ _ ?_ ?_).mono ?_; (first | exact hrow.out _ (grew_refl _) | exact hrow.out _ (grew_drew (grew_refl _))); (first | assumption | exact grew_drew (grew_refl _) | exact grew_drew (by assumption)); rintro e w' ⟨rfl, hgr⟩))
          all_goals (go_wp2_with fail; go_meet; exact ⟨by simp, by assumption⟩)
        case rest =>
          obtain ⟨rfl, HGR⟩ := hcut
          obtain ⟨w24, rfl⟩ : ∃ w24, w24 = wc := ⟨wc, rfl⟩
          have B24 := hide (B23.out.below HGR.out (Nat.le_refl _))
          have K24 := hide (K23.out.below HGR.out (Nat.le_refl _))
          have N24 := hide (N23.out.below HGR.out (Nat.le_refl _))
          have HB24 := hide (below_step HB23.out HGR.out)
          clear H1 H2 H3 HK HGR S23 G23 Q23 B23 V23 M23 N23 K23 HB23 hfd
          have k0 := K24.out.get 0 rfl
          have k1 := K24.out.get 1 rfl
          have k2 := K24.out.get 2 rfl
          have b0 := B24.out.get 0 rfl
          have b1 := B24.out.get 1 rfl
          have b2 := B24.out.get 2 rfl
          have f0 := B24.out.free 0
          have f1 := B24.out.free 1
          have f2 := B24.out.free 2
          go_wp2_with fail
          go_roundw
          case rel =>
            have hgl : ∃ N0, gx < N0 ∧ StOwn w24 N0 (.agg #[.slice q1 Z.clock.length r1, .slice q2 Z.lives.length r2, .slice q3 Z.tals.length r3]) Z := ⟨_, by have := HGL.out; simp; omega, N24.out⟩
            obtain ⟨N0, hg, hn⟩ := hgl
            have hge2 : W4.heap.size ≤ gx := hge
            refine ⟨k + 1, q1, q2, q3, r1, r2, r3, by omega, by go_num, ?_, ?_, ?_⟩
            · rw [HZ.out]
              exact ((B24.out.set 0 _).set 1 _).set 2 _
            · rw [HZ.out]
              exact (((hn.away hg 0 _).away hg 1 _).away hg 2 _).st
            · have hb := ((HB24.out.setCell (p := ⟨gx, 0, none⟩) hge2 (.slice q1 Z.clock.length r1)).setCell (p := ⟨gx, 1, none⟩) hge2 (.slice q2 Z.lives.length r2)).setCell (p := ⟨gx, 2, none⟩) hge2 (.slice q3 Z.tals.length r3)
              rw [HGX.out] at hb
              exact hb
          case measure => simp [intOf]; omega
      · have hkl : k = l.length := by omega
        have hlt' : ¬ (k : Int) < (l.length : Int) := by omega
        rw [hkl, partS_all HE.out, HX.out] at B20 Q20
        have b0 := B20.out.get 0 rfl
        have b1 := B20.out.get 1 rfl
        have b2 := B20.out.get 2 rfl
        have x0 := X20.out.get 0 rfl
        have x1 := X20.out.get 1 rfl
        have x2 := X20.out.get 2 rfl
        clear hkl
        go_wp2_with fail
        refine (same_st _ _ X _ Q20.out P20.out.st).mono ?_
        rintro e w21 ⟨rfl, hb⟩
        have HB21 := hide ((HB20.out.mono (by rw [HGX.out]; exact HLE.out)).trans (hb.mono (by have := HB20.out.size; rw [HGX.out] at this; exact Nat.le_trans HLE.out this)))
        clear hb
        go_wp2_with fail
        go_ret
        exact ⟨rfl, HB4.out.trans HB21.out⟩
  · have hE' : (E != 0) = true := by simp [hE]
    clear hE
    go_enter Try.func5, Try.ntmps5
    go_wp2_with fail
    refine (alive4 _).mono ?_
    rintro e w1 ⟨rfl, hb⟩
    have HB1 := hide (below_step HB0.out hb)
    have S1 := hide (S0.out.below hb (Nat.le_refl _))
    have U1 := hide (U0.out.below hb (Nat.le_refl _))
    have G1 := hide (G0.out.below hb (Nat.le_refl _))
    clear HB0 hb S0 U0 G0
    have cG0 := G1.out.get 0 rfl
    have cG1 := G1.out.get 1 rfl
    have cG2 := G1.out.get 2 rfl
    go_wp2_with fail
    refine (play_state _ _ s l _ S1.out U1.out).mono ?_
    rintro e w2 ⟨vP, rfl, hP, hb⟩
    have HB2 := hide (below_step HB1.out hb)
    have S2 := hide (S1.out.below hb (Nat.le_refl _))
    have U2 := hide (U1.out.below hb (Nat.le_refl _))
    have G2 := hide (G1.out.below hb (Nat.le_refl _))
    have P2 := hide hP
    clear HB1 hb S1 U1 G1
    rw [HE.out, HA.out]
    clear cG0 cG1 cG2
    obtain ⟨X, HX⟩ : ∃ X, Hid (playX s l = X) := ⟨_, rfl⟩
    rw [HX.out] at P2
    obtain ⟨x1, y1, x2, y2, x3, y3, hvp⟩ := P2.out.form
    subst hvp
    clear hP
    have HB3 := hide (below_step HB2.out (Below.plus (Below.refl _ w2) (.cells #[.slice x1 X.clock.length y1, .slice x2 X.lives.length y2, .slice x3 X.tals.length y3] 27)))
    have S3 := hide (S2.out.below (Below.plus (Below.refl _ w2) (.cells #[.slice x1 X.clock.length y1, .slice x2 X.lives.length y2, .slice x3 X.tals.length y3] 27)) (Nat.le_refl _))
    have U3 := hide (U2.out.below (Below.plus (Below.refl _ w2) (.cells #[.slice x1 X.clock.length y1, .slice x2 X.lives.length y2, .slice x3 X.tals.length y3] 27)) (Nat.le_refl _))
    have G3 := hide (G2.out.below (Below.plus (Below.refl _ w2) (.cells #[.slice x1 X.clock.length y1, .slice x2 X.lives.length y2, .slice x3 X.tals.length y3] 27)) (Nat.le_refl _))
    have P3 := hide (P2.out.below (Below.plus (Below.refl _ w2) (.cells #[.slice x1 X.clock.length y1, .slice x2 X.lives.length y2, .slice x3 X.tals.length y3] 27)) (Nat.le_refl _))
    have X3 := hide (Box.new w2 [.slice x1 X.clock.length y1, .slice x2 X.lives.length y2, .slice x3 X.tals.length y3] 27)
    clear HB2 S2 U2 G2 P2
    have HB4 := hide (below_step HB3.out (Below.plus (Below.refl _ (w2.alloc (.cells #[.slice x1 X.clock.length y1, .slice x2 X.lives.length y2, .slice x3 X.tals.length y3] 27))) (.cells #[.int .i64 E, .int .i64 A] 31)))
    have S4 := hide (S3.out.below (Below.plus (Below.refl _ (w2.alloc (.cells #[.slice x1 X.clock.length y1, .slice x2 X.lives.length y2, .slice x3 X.tals.length y3] 27))) (.cells #[.int .i64 E, .int .i64 A] 31)) (Nat.le_refl _))
    have U4 := hide (U3.out.below (Below.plus (Below.refl _ (w2.alloc (.cells #[.slice x1 X.clock.length y1, .slice x2 X.lives.length y2, .slice x3 X.tals.length y3] 27))) (.cells #[.int .i64 E, .int .i64 A] 31)) (Nat.le_refl _))
    have G4 := hide (G3.out.below (Below.plus (Below.refl _ (w2.alloc (.cells #[.slice x1 X.clock.length y1, .slice x2 X.lives.length y2, .slice x3 X.tals.length y3] 27))) (.cells #[.int .i64 E, .int .i64 A] 31)) (Nat.le_refl _))
    have P4 := hide (P3.out.below (Below.plus (Below.refl _ (w2.alloc (.cells #[.slice x1 X.clock.length y1, .slice x2 X.lives.length y2, .slice x3 X.tals.length y3] 27))) (.cells #[.int .i64 E, .int .i64 A] 31)) (Nat.le_refl _))
    have X4 := hide (X3.out.below (Below.plus (Below.refl _ (w2.alloc (.cells #[.slice x1 X.clock.length y1, .slice x2 X.lives.length y2, .slice x3 X.tals.length y3] 27))) (.cells #[.int .i64 E, .int .i64 A] 31)) (Nat.le_refl _))
    have F4 := hide (Box.new (w2.alloc (.cells #[.slice x1 X.clock.length y1, .slice x2 X.lives.length y2, .slice x3 X.tals.length y3] 27)) [.int .i64 E, .int .i64 A] 31)
    clear HB3 S3 U3 G3 P3 X3
    simp only [World.size_alloc] at F4
    have cF0 := F4.out.get 0 rfl
    have cF1 := F4.out.get 1 rfl
    go_wp2_with fail
    go_ret
    exact ⟨rfl, HB4.out⟩
end Go.Proofs.Ytkhhifkihpfdhaa
