/- JoinMore, walked: who has seen all stays. -/
import Derived.Test.YtkhhifkihpfdhaaGreatLawJU
namespace Go.Proofs.YtkhhifkihpfdhaaGreat
open Go.RowKit

theorem zero_good {k : Nat} (h1 : 1 ≤ k) (h2 : k ≤ 6) : wrongC (zeroC k) (k : Int) = 0 := by
  refine goodC_iff.2 ⟨by omega, by omega, by rw [zeroC_length], fun i => ?_⟩
  rw [zeroC_getD]
  omega
theorem more_law {k : Nat} {l p : List Upd} {m : Nat} (h1 : 1 ≤ k) (h2 : k ≤ 6) (hp : p = l.take m) (pa : playE (z0 k) l = 0) (pb : playE (z0 k) p = 0) :
    (joinE (playX (z0 k) l) (playX (z0 k) p) = 0 ∧ joinX (playX (z0 k) l) (playX (z0 k) p) = playX (z0 k) l) ∧ joinE (playX (z0 k) p) (playX (z0 k) l) = 0 ∧ joinX (playX (z0 k) p) (playX (z0 k) l) = playX (z0 k) l := by
  have hz : wrongC (zeroC (k : Int).toNat) (k : Int) = 0 := by rw [Int.toNat_natCast]; exact zero_good h1 h2
  have hzl : ((z0 k).clock.length : Int) = k := by unfold z0; simp [zeroC_length]
  have hl : errL k (zeroC (k : Int).toNat) (l ++ []) = 0 := by
    have := (playE_iff.1 pa).2.2
    rw [hzl] at this
    rw [List.append_nil, Int.toNat_natCast]
    exact this
  have hl2 : errL k (zeroC (k : Int).toNat) (l.take m ++ l.drop m) = 0 := by
    rw [List.take_append_drop]
    rw [List.append_nil] at hl
    exact hl
  obtain ⟨x1, x2, x3, -⟩ := more_main hz hl
  obtain ⟨y1, y2, y3, y4⟩ := more_main hz hl2
  rw [List.append_nil] at x1 x3 hl
  rw [List.take_append_drop] at y1 y3 y4
  have ex : playX (z0 k) l = ofS k l (tickL (zeroC (k : Int).toNat) l) := by
    rw [x1, playX_ok pa, Int.toNat_natCast]
    rfl
  have ey : playX (z0 k) p = ofS k l (tickL (zeroC (k : Int).toNat) p) := by
    subst hp
    rw [y1, playX_ok pb, Int.toNat_natCast]
    rfl
  subst hp
  obtain ⟨u1, u2⟩ := union_main x2 y2 hl x3 y3
  obtain ⟨v1, v2⟩ := union_main y2 x2 hl y3 x3
  rw [joinC_comm y2 x2, y4] at v2
  rw [y4] at u2
  rw [ex, ey]
  exact ⟨⟨u1, u2⟩, v1, v2⟩

/-- A state's rows lie apart from a block. -/
def Apart (v : Value) (g : Nat) : Prop := ∀ cv lv tv, v = .agg #[cv, lv, tv] → cv.ownBlock ≠ some g ∧ lv.ownBlock ≠ some g ∧ tv.ownBlock ≠ some g
theorem row_apart {w : World} {B g : Nat} {e : TypeId} {sz n : Nat} {v : Value} {xs : List Value} (h : w.ownsRow B e sz v n xs) (hg : g < B ∨ w.heap.size ≤ g) : v.ownBlock ≠ some g := by
  intro he
  have := World.ownsRow.lt h g he
  omega
theorem apart_of {w : World} {B g : Nat} {v : Value} {s : StS} (h : StOwn w B v s) (hg : g < B ∨ w.heap.size ≤ g) : Apart v g := by
  obtain ⟨cv, lv, tv, h1, h2, h3, h4⟩ := h
  intro cv' lv' tv' he
  rw [h1] at he
  simp only [Value.agg.injEq, Array.mk.injEq, List.cons.injEq, and_true] at he
  obtain ⟨rfl, rfl, rfl⟩ := he
  exact ⟨row_apart h2 hg, row_apart h3 hg, row_apart h4 hg⟩
theorem apart_lo {w : World} {B g : Nat} {v : Value} {s : StS} (h : StOwn w B v s) (hg : g < B) : Apart v g := apart_of h (.inl hg)
theorem apart_hi {w : World} {B g : Nat} {v : Value} {s : StS} (h : StOwn w B v s) (hg : w.heap.size ≤ g) : Apart v g := apart_of h (.inr hg)
theorem StOwn.set {w : World} {B g : Nat} {v : Value} {s : StS} (h : StOwn w B v s) (ha : Apart v g) (i : Nat) (x : Value) : StOwn (w.setCell ⟨g, i, Option.none⟩ x) B v s := by
  obtain ⟨cv, lv, tv, h1, h2, h3, h4⟩ := h
  obtain ⟨a1, a2, a3⟩ := ha cv lv tv h1
  exact ⟨cv, lv, tv, h1, row_set h2 a1 i x, row_set h3 a2 i x, row_set h4 a3 i x⟩

set_option maxRecDepth 100000 in
set_option maxHeartbeats 8000000 in
theorem more_walk (lv : Value) (l : List Upd) (n t : Int) (w0 : World) (hl : LogV w0 lv l) :
    Calls Tryz.prog 5 #[lv, .int .i64 n, .int .i64 t] w0 fun e w' => e = .returned (.bool true) ∧ Below w0.heap.size w0 w' := by
  obtain ⟨a4, cap4, rfl, hc1, -, -⟩ := id hl
  have L0 := hide hl
  have HB0 := hide (Below.refl w0.heap.size w0)
  have hll := hl.len_le
  clear hl
  by_cases ht0 : t < 0
  · go_enter Tryz.func5, Tryz.ntmps5
    go_wp2_with fail
    refine (alive5 _).mono ?_
    rintro e w1 ⟨rfl, hb⟩
    have HB1 := hide (below_step HB0.out hb)
    have L1 := hide (L0.out.below hb (Nat.le_refl _))
    clear HB0 hb L0
    go_wp2_with fail
    go_ret
    exact ⟨rfl, HB1.out⟩
  · by_cases ht1 : (l.length : Int) < t
    · go_enter Tryz.func5, Tryz.ntmps5
      go_wp2_with fail
      refine (alive5 _).mono ?_
      rintro e w1 ⟨rfl, hb⟩
      have HB1 := hide (below_step HB0.out hb)
      have L1 := hide (L0.out.below hb (Nat.le_refl _))
      clear HB0 hb L0
      go_wp2_with fail
      go_ret
      exact ⟨rfl, HB1.out⟩
    · by_cases hn0 : n < 1
      · go_enter Tryz.func5, Tryz.ntmps5
        go_wp2_with fail
        refine (alive5 _).mono ?_
        rintro e w1 ⟨rfl, hb⟩
        have HB1 := hide (below_step HB0.out hb)
        have L1 := hide (L0.out.below hb (Nat.le_refl _))
        clear HB0 hb L0
        go_wp2_with fail
        go_ret
        exact ⟨rfl, HB1.out⟩
      · by_cases hn1 : 6 < n
        · go_enter Tryz.func5, Tryz.ntmps5
          go_wp2_with fail
          refine (alive5 _).mono ?_
          rintro e w1 ⟨rfl, hb⟩
          have HB1 := hide (below_step HB0.out hb)
          have L1 := hide (L0.out.below hb (Nat.le_refl _))
          clear HB0 hb L0
          go_wp2_with fail
          go_ret
          exact ⟨rfl, HB1.out⟩
        · obtain ⟨k, rfl⟩ : ∃ k : Nat, n = (k : Int) := ⟨n.toNat, by omega⟩
          obtain ⟨m, rfl⟩ : ∃ m : Nat, t = (m : Int) := ⟨t.toNat, by omega⟩
          have hk1 : 1 ≤ k := by omega
          have hk6 : k ≤ 6 := by omega
          have hm : m ≤ l.length := by omega
          have HK1 := hide hk1
          have HK6 := hide hk6
          have HMM := hide hm
          have hm0 : (0 : Int) ≤ (m : Int) := by omega
          have hm1 : (m : Int) ≤ (l.length : Int) := by omega
          have hm2 : (m : Int) ≤ (cap4 : Int) := by omega
          obtain ⟨P, HP⟩ : ∃ P, Hid (playE (z0 k) l = P) := ⟨_, rfl⟩
          obtain ⟨A, HA⟩ : ∃ A, Hid (playA (z0 k) l = A) := ⟨_, rfl⟩
          obtain ⟨X, HX⟩ : ∃ X, Hid (playX (z0 k) l = X) := ⟨_, rfl⟩
          obtain ⟨p, Hp⟩ : ∃ p, Hid (l.take m = p) := ⟨_, rfl⟩
          obtain ⟨P2, HP2⟩ : ∃ P2, Hid (playE (z0 k) p = P2) := ⟨_, rfl⟩
          obtain ⟨A2, HA2⟩ : ∃ A2, Hid (playA (z0 k) p = A2) := ⟨_, rfl⟩
          obtain ⟨Y, HY⟩ : ∃ Y, Hid (playX (z0 k) p = Y) := ⟨_, rfl⟩
          have M0 := hide (L0.out.take hm)
          rw [Hp.out] at M0
          clear hk1 hm
          go_enter Tryz.func5, Tryz.ntmps5
          go_wp2_with fail
          refine (alive5 _).mono ?_
          rintro e w1 ⟨rfl, hb⟩
          have HB1 := hide (below_step HB0.out hb)
          have L1 := hide (L0.out.below hb (Nat.le_refl _))
          have M1 := hide (M0.out.below hb (Nat.le_refl _))
          clear HB0 hb L0 M0
          go_wp2_with fail
          refine (start_any (k := k) HK6.out _).mono ?_
          rintro e w2 ⟨vS, rfl, hS, hb⟩
          have HB2 := hide (below_step HB1.out hb)
          have L2 := hide (L1.out.below hb (Nat.le_refl _))
          have M2 := hide (M1.out.below hb (Nat.le_refl _))
          have S2 := hide hS
          clear HB1 hb L1 M1
          go_wp2_with fail
          refine (play_state _ _ (z0 k) l _ S2.out.st L2.out).mono ?_
          rintro e w3 ⟨vQ, rfl, hQ, hb⟩
          have HB3 := hide (below_step HB2.out hb)
          have L3 := hide (L2.out.below hb (Nat.le_refl _))
          have M3 := hide (M2.out.below hb (Nat.le_refl _))
          have S3 := hide (S2.out.below hb (Nat.le_refl _))
          have Q3 := hide hQ
          clear HB2 hb L2 M2 S2
          rw [HP.out, HA.out]
          rw [HX.out] at Q3
          clear S3
          obtain ⟨x1, y1, x2, y2, x3, y3, hvq⟩ := Q3.out.formW
          subst hvq
          clear hQ
          have HB4 := hide (below_step HB3.out (Below.plus (Below.refl _ w3) (.cells #[.slice x1 X.clock.length y1, .slice x2 X.lives.length y2, .slice x3 X.tals.length y3] 35)))
          have L4 := hide (L3.out.below (Below.plus (Below.refl _ w3) (.cells #[.slice x1 X.clock.length y1, .slice x2 X.lives.length y2, .slice x3 X.tals.length y3] 35)) (Nat.le_refl _))
          have M4 := hide (M3.out.below (Below.plus (Below.refl _ w3) (.cells #[.slice x1 X.clock.length y1, .slice x2 X.lives.length y2, .slice x3 X.tals.length y3] 35)) (Nat.le_refl _))
          have Q4 := hide (Q3.out.below (Below.plus (Below.refl _ w3) (.cells #[.slice x1 X.clock.length y1, .slice x2 X.lives.length y2, .slice x3 X.tals.length y3] 35)) (Nat.le_refl _))
          have G4 := hide (Box.new w3 [.slice x1 X.clock.length y1, .slice x2 X.lives.length y2, .slice x3 X.tals.length y3] 35)
          clear HB3 L3 M3 Q3
          have HB5 := hide (below_step HB4.out (Below.plus (Below.refl _ (w3.alloc (.cells #[.slice x1 X.clock.length y1, .slice x2 X.lives.length y2, .slice x3 X.tals.length y3] 35))) (.cells #[.int .i64 P, .int .i64 A] 29)))
          have L5 := hide (L4.out.below (Below.plus (Below.refl _ (w3.alloc (.cells #[.slice x1 X.clock.length y1, .slice x2 X.lives.length y2, .slice x3 X.tals.length y3] 35))) (.cells #[.int .i64 P, .int .i64 A] 29)) (Nat.le_refl _))
          have M5 := hide (M4.out.below (Below.plus (Below.refl _ (w3.alloc (.cells #[.slice x1 X.clock.length y1, .slice x2 X.lives.length y2, .slice x3 X.tals.length y3] 35))) (.cells #[.int .i64 P, .int .i64 A] 29)) (Nat.le_refl _))
          have Q5 := hide (Q4.out.below (Below.plus (Below.refl _ (w3.alloc (.cells #[.slice x1 X.clock.length y1, .slice x2 X.lives.length y2, .slice x3 X.tals.length y3] 35))) (.cells #[.int .i64 P, .int .i64 A] 29)) (Nat.le_refl _))
          have G5 := hide (G4.out.below (Below.plus (Below.refl _ (w3.alloc (.cells #[.slice x1 X.clock.length y1, .slice x2 X.lives.length y2, .slice x3 X.tals.length y3] 35))) (.cells #[.int .i64 P, .int .i64 A] 29)) (Nat.le_refl _))
          have F5 := hide (Box.new (w3.alloc (.cells #[.slice x1 X.clock.length y1, .slice x2 X.lives.length y2, .slice x3 X.tals.length y3] 35)) [.int .i64 P, .int .i64 A] 29)
          clear HB4 L4 M4 Q4 G4
          simp only [World.size_alloc] at F5
          obtain ⟨W5, HW5⟩ : ∃ W5, Hid ((w3.alloc (.cells #[.slice x1 X.clock.length y1, .slice x2 X.lives.length y2, .slice x3 X.tals.length y3] 35)).alloc (.cells #[.int .i64 P, .int .i64 A] 29) = W5) := ⟨_, rfl⟩
          rw [HW5.out] at L5 M5 Q5 G5 F5 HB5
          go_upto_region 6 with fail
          rw [HW5.out]
          go_cut [9, 10] (fun c1 c2 wx => ∃ g1 g2 x4 x5 x6 y4 y5 y6, c1 = .pointer (some ⟨g1, 0, none⟩) ∧ c2 = .pointer (some ⟨g2, 0, none⟩) ∧ Hid (Box wx g1 [.slice x4 Y.clock.length y4, .slice x5 Y.lives.length y5, .slice x6 Y.tals.length y6] 35) ∧ Hid (Box wx g2 [.int .i64 P2, .int .i64 A2] 29) ∧ Hid (IsSt wx (.agg #[.slice x4 Y.clock.length y4, .slice x5 Y.lives.length y5, .slice x6 Y.tals.length y6]) Y) ∧ Hid (Grew W5 wx))
          case first =>
            refine wp_region_held_drew (S := fun _ => True) (by kernel_rfl) trivial (fun hHeld => ?_)
            obtain ⟨wd, HWD⟩ : ∃ wd, Hid (W5.drew = wd) := ⟨_, rfl⟩
            have hg0 : Grew W5 wd := by rw [← HWD.out]; exact grew_drew (grew_refl W5)
            rw [HWD.out]
            refine take_yes 0 41 (.int .i64 (k : Int)) rfl rfl (by kernel_rfl) (by kernel_rfl) (by kernel_rfl) (fun _ _ _ h => h) rfl (by intro w hSw; (try dsimp only at hSw); go_simp) (by assumption) ?_
            simp only [Act.put, List.setIfInBounds_toArray, List.set_cons_zero, List.set_cons_succ]
            refine take_yes 2 43 (.slice a4 l.length cap4) rfl rfl (by kernel_rfl) (by kernel_rfl) (by kernel_rfl) (fun _ _ _ h => h) rfl (by intro w hSw; (try dsimp only at hSw); go_simp) (by assumption) ?_
            simp only [Act.put, List.setIfInBounds_toArray, List.set_cons_zero, List.set_cons_succ]
            refine take_yes 3 44 (.int .i64 (m : Int)) rfl rfl (by kernel_rfl) (by kernel_rfl) (by kernel_rfl) (fun _ _ _ h => h) rfl (by intro w hSw; (try dsimp only at hSw); go_simp) (by assumption) ?_
            simp only [Act.put, List.setIfInBounds_toArray, List.set_cons_zero, List.set_cons_succ]
            refine take_yes 4 45 (.slice a4 m cap4) rfl rfl (by kernel_rfl) (by kernel_rfl) (by kernel_rfl) (fun _ _ _ h => h) rfl (by intro w hSw; (try dsimp only at hSw); go_simp) (by assumption) ?_
            simp only [Act.put, List.setIfInBounds_toArray, List.set_cons_zero, List.set_cons_succ]
            refine wpAnyH_ready (rs := [1, 9, 10]) (by kernel_rfl) (by simp) ?_
            refine AllReadyH.cons (o := _) rfl (fun K hK => ?_) (AllReadyH.cons (o := _) rfl (fun K hK => ?_) (AllReadyH.cons (o := _) rfl (fun K hK => ?_) AllReadyH.nil))
            · go_simp
              refine (start_any (k := k) HK6.out _).mono ?_
              rintro e wn1 ⟨vS, rfl, hS, hb⟩
              have hg1 : Grew W5 wn1 := grew_step hg0 hb
              refine hK.out _ _ trivial (fun _ => ?_)
              clear hK K hb
              try simp only [Act.put, List.setIfInBounds_toArray, List.set_cons_zero, List.set_cons_succ]
              refine wpAnyH_ready (rs := [5, 9, 10]) (by kernel_rfl) (by simp) ?_
              refine AllReadyH.cons (o := _) rfl (fun K hK => ?_) (AllReadyH.cons (o := _) rfl (fun K hK => ?_) (AllReadyH.cons (o := _) rfl (fun K hK => ?_) AllReadyH.nil))
              · go_simp
                refine (play_state _ _ (z0 k) p _ hS.st (M5.out.below hg1 (Nat.le_refl _))).mono ?_
                rintro e wn2 ⟨rv, rfl, hY0, hb⟩
                rw [HP2.out, HA2.out]
                rw [HY.out] at hY0
                obtain ⟨x4, y4, x5, y5, x6, y6, hvy⟩ := hY0.formW
                subst hvy
                have hg2 : Grew W5 wn2 := grew_step hg1 hb
                refine hK.out _ _ trivial (fun _ => ?_)
                clear hK K hb
                try simp only [Act.put, List.setIfInBounds_toArray, List.set_cons_zero, List.set_cons_succ]
                refine take_yes 6 40 (.tuple #[.agg #[.slice x4 Y.clock.length y4, .slice x5 Y.lives.length y5, .slice x6 Y.tals.length y6], .agg #[.int .i64 P2, .int .i64 A2]]) rfl rfl (by kernel_rfl) (by kernel_rfl) (by kernel_rfl) (fun _ _ _ h => h) rfl (by intro w hSw; (try dsimp only at hSw); go_simp) (by assumption) ?_
                simp only [Act.put, List.setIfInBounds_toArray, List.set_cons_zero, List.set_cons_succ]
                refine take_yes 7 47 (.agg #[.slice x4 Y.clock.length y4, .slice x5 Y.lives.length y5, .slice x6 Y.tals.length y6]) rfl rfl (by kernel_rfl) (by kernel_rfl) (by kernel_rfl) (fun _ _ _ h => h) rfl (by intro w hSw; (try dsimp only at hSw); go_simp) (by assumption) ?_
                simp only [Act.put, List.setIfInBounds_toArray, List.set_cons_zero, List.set_cons_succ]
                refine take_yes 8 48 (.agg #[.int .i64 P2, .int .i64 A2]) rfl rfl (by kernel_rfl) (by kernel_rfl) (by kernel_rfl) (fun _ _ _ h => h) rfl (by intro w hSw; (try dsimp only at hSw); go_simp) (by assumption) ?_
                simp only [Act.put, List.setIfInBounds_toArray, List.set_cons_zero, List.set_cons_succ]
                refine wpAnyH_ready (rs := [9, 10]) (by kernel_rfl) (by simp) ?_
                refine AllReadyH.cons (o := _) rfl (fun K hK => ?_) (AllReadyH.cons (o := _) rfl (fun K hK => ?_) AllReadyH.nil)
                · go_simp
                  obtain ⟨wn3, hw3⟩ : ∃ wn3, Hid (wn2.alloc (.cells #[.slice none 0 0, .slice none 0 0, .slice none 0 0] 35) = wn3) := ⟨_, rfl⟩
                  have hbp : Below wn2.heap.size wn2 wn3 := by rw [← hw3.out]; exact Below.plus (Below.refl _ wn2) (.cells #[.slice none 0 0, .slice none 0 0, .slice none 0 0] 35)
                  have b9x3 : Box wn3 wn2.heap.size [.slice none 0 0, .slice none 0 0, .slice none 0 0] 35 := by rw [← hw3.out]; exact Box.new wn2 [.slice none 0 0, .slice none 0 0, .slice none 0 0] 35
                  have hg3 : Grew W5 wn3 := grew_step hg2 hbp
                  have ge9 : W5.heap.size ≤ wn2.heap.size := hg2.size
                  have p9x3 := apart_hi hY0 (g := wn2.heap.size) (Nat.le_refl _)
                  have hY3 := hY0.below hbp (Nat.le_refl _)
                  rw [hw3.out]
                  refine hK.out _ _ trivial (fun _ => ?_)
                  clear hK K hbp
                  try simp only [Act.put, List.setIfInBounds_toArray, List.set_cons_zero, List.set_cons_succ]
                  refine wpAnyH_ready (rs := [10]) (by kernel_rfl) (by simp) ?_
                  refine AllReadyH.cons (o := _) rfl (fun K hK => ?_) AllReadyH.nil
                  go_simp
                  obtain ⟨wn4, hw4⟩ : ∃ wn4, Hid (wn3.alloc (.cells #[.int .i64 0, .int .i64 0] 29) = wn4) := ⟨_, rfl⟩
                  have hbp : Below wn3.heap.size wn3 wn4 := by rw [← hw4.out]; exact Below.plus (Below.refl _ wn3) (.cells #[.int .i64 0, .int .i64 0] 29)
                  have b10x4 : Box wn4 wn3.heap.size [.int .i64 0, .int .i64 0] 29 := by rw [← hw4.out]; exact Box.new wn3 [.int .i64 0, .int .i64 0] 29
                  have hg4 : Grew W5 wn4 := grew_step hg3 hbp
                  have ge10 : W5.heap.size ≤ wn3.heap.size := hg3.size
                  have b9x4 := b9x3.below hbp (Nat.le_refl _)
                  have ne910 : wn2.heap.size ≠ wn3.heap.size := Nat.ne_of_lt b9x3.lt
                  have p10x4 := apart_hi hY3 (g := wn3.heap.size) (Nat.le_refl _)
                  have hY4 := hY3.below hbp (Nat.le_refl _)
                  rw [hw4.out]
                  refine hK.out _ _ trivial (fun _ => ?_)
                  clear hK K hbp
                  try simp only [Act.put, List.setIfInBounds_toArray, List.set_cons_zero, List.set_cons_succ]
                  have c0 := b9x4.get 0 rfl
                  have f0 := b9x4.free 0
                  have c1 := b9x4.get 1 rfl
                  have f1 := b9x4.free 1
                  have c2 := b9x4.get 2 rfl
                  have f2 := b9x4.free 2
                  refine wpAnyH_ready (rs := [11]) (by kernel_rfl) (by simp) ?_
                  refine AllReadyH.cons (o := _) rfl (fun K hK => ?_) AllReadyH.nil
                  go_simp
                  have ne : wn3.heap.size ≠ wn2.heap.size := Ne.symm ne910
                  have r9 := ((b9x4.set 0 (.slice x4 Y.clock.length y4)).set 1 (.slice x5 Y.lives.length y5)).set 2 (.slice x6 Y.tals.length y6)
                  have r10 := ((b10x4.away (g' := wn2.heap.size) (i := 0) (v := .slice x4 Y.clock.length y4) ne).away (g' := wn2.heap.size) (i := 1) (v := .slice x5 Y.lives.length y5) ne).away (g' := wn2.heap.size) (i := 2) (v := .slice x6 Y.tals.length y6) ne
                  have rY := ((hY4.set p9x3 0 (.slice x4 Y.clock.length y4)).set p9x3 1 (.slice x5 Y.lives.length y5)).set p9x3 2 (.slice x6 Y.tals.length y6)
                  have rg := ((hg4.setCell (p := ⟨wn2.heap.size, 0, none⟩) ge9 (.slice x4 Y.clock.length y4)).setCell (p := ⟨wn2.heap.size, 1, none⟩) ge9 (.slice x5 Y.lives.length y5)).setCell (p := ⟨wn2.heap.size, 2, none⟩) ge9 (.slice x6 Y.tals.length y6)
                  refine hK.out _ _ trivial (fun _ => ?_)
                  clear hK K c0 c1 c2 f0 f1 f2
                  try simp only [Act.put, List.setIfInBounds_toArray, List.set_cons_zero, List.set_cons_succ]
                  have c0 := r10.get 0 rfl
                  have f0 := r10.free 0
                  have c1 := r10.get 1 rfl
                  have f1 := r10.free 1
                  refine wpAnyH_ready (rs := [12]) (by kernel_rfl) (by simp) ?_
                  refine AllReadyH.cons (o := _) rfl (fun K hK => ?_) AllReadyH.nil
                  go_simp
                  have s9 := (r9.away (g' := wn3.heap.size) (i := 0) (v := .int .i64 P2) (Ne.symm ne)).away (g' := wn3.heap.size) (i := 1) (v := .int .i64 A2) (Ne.symm ne)
                  have s10 := (r10.set 0 (.int .i64 P2)).set 1 (.int .i64 A2)
                  have sY := (rY.set p10x4 0 (.int .i64 P2)).set p10x4 1 (.int .i64 A2)
                  have sg := (rg.setCell (p := ⟨wn3.heap.size, 0, none⟩) ge10 (.int .i64 P2)).setCell (p := ⟨wn3.heap.size, 1, none⟩) ge10 (.int .i64 A2)
                  refine hK.out _ _ trivial (fun _ => ?_)
                  clear hK K c0 c1 f0 f1
                  try simp only [Act.put, List.setIfInBounds_toArray, List.set_cons_zero, List.set_cons_succ]
                  refine wpAnyH_done (by kernel_rfl) ?_ _
                  go_wp2_with fail
                  go_meet
                  exact ⟨_, _, _, _, _, _, _, _, rfl, rfl, hide s9, hide s10, hide sY.st, hide sg⟩
                · go_simp
                  obtain ⟨wn5, hw5⟩ : ∃ wn5, Hid (wn2.alloc (.cells #[.int .i64 0, .int .i64 0] 29) = wn5) := ⟨_, rfl⟩
                  have hbp : Below wn2.heap.size wn2 wn5 := by rw [← hw5.out]; exact Below.plus (Below.refl _ wn2) (.cells #[.int .i64 0, .int .i64 0] 29)
                  have b10x5 : Box wn5 wn2.heap.size [.int .i64 0, .int .i64 0] 29 := by rw [← hw5.out]; exact Box.new wn2 [.int .i64 0, .int .i64 0] 29
                  have hg5 : Grew W5 wn5 := grew_step hg2 hbp
                  have ge10 : W5.heap.size ≤ wn2.heap.size := hg2.size
                  have p10x5 := apart_hi hY0 (g := wn2.heap.size) (Nat.le_refl _)
                  have hY5 := hY0.below hbp (Nat.le_refl _)
                  rw [hw5.out]
                  refine hK.out _ _ trivial (fun _ => ?_)
                  clear hK K hbp
                  try simp only [Act.put, List.setIfInBounds_toArray, List.set_cons_zero, List.set_cons_succ]
                  refine wpAnyH_ready (rs := [9]) (by kernel_rfl) (by simp) ?_
                  refine AllReadyH.cons (o := _) rfl (fun K hK => ?_) AllReadyH.nil
                  go_simp
                  obtain ⟨wn6, hw6⟩ : ∃ wn6, Hid (wn5.alloc (.cells #[.slice none 0 0, .slice none 0 0, .slice none 0 0] 35) = wn6) := ⟨_, rfl⟩
                  have hbp : Below wn5.heap.size wn5 wn6 := by rw [← hw6.out]; exact Below.plus (Below.refl _ wn5) (.cells #[.slice none 0 0, .slice none 0 0, .slice none 0 0] 35)
                  have b9x6 : Box wn6 wn5.heap.size [.slice none 0 0, .slice none 0 0, .slice none 0 0] 35 := by rw [← hw6.out]; exact Box.new wn5 [.slice none 0 0, .slice none 0 0, .slice none 0 0] 35
                  have hg6 : Grew W5 wn6 := grew_step hg5 hbp
                  have ge9 : W5.heap.size ≤ wn5.heap.size := hg5.size
                  have b10x6 := b10x5.below hbp (Nat.le_refl _)
                  have ne109 : wn2.heap.size ≠ wn5.heap.size := Nat.ne_of_lt b10x5.lt
                  have p9x6 := apart_hi hY5 (g := wn5.heap.size) (Nat.le_refl _)
                  have hY6 := hY5.below hbp (Nat.le_refl _)
                  rw [hw6.out]
                  refine hK.out _ _ trivial (fun _ => ?_)
                  clear hK K hbp
                  try simp only [Act.put, List.setIfInBounds_toArray, List.set_cons_zero, List.set_cons_succ]
                  have c0 := b9x6.get 0 rfl
                  have f0 := b9x6.free 0
                  have c1 := b9x6.get 1 rfl
                  have f1 := b9x6.free 1
                  have c2 := b9x6.get 2 rfl
                  have f2 := b9x6.free 2
                  refine wpAnyH_ready (rs := [11]) (by kernel_rfl) (by simp) ?_
                  refine AllReadyH.cons (o := _) rfl (fun K hK => ?_) AllReadyH.nil
                  go_simp
                  have ne : wn2.heap.size ≠ wn5.heap.size := ne109
                  have r9 := ((b9x6.set 0 (.slice x4 Y.clock.length y4)).set 1 (.slice x5 Y.lives.length y5)).set 2 (.slice x6 Y.tals.length y6)
                  have r10 := ((b10x6.away (g' := wn5.heap.size) (i := 0) (v := .slice x4 Y.clock.length y4) ne).away (g' := wn5.heap.size) (i := 1) (v := .slice x5 Y.lives.length y5) ne).away (g' := wn5.heap.size) (i := 2) (v := .slice x6 Y.tals.length y6) ne
                  have rY := ((hY6.set p9x6 0 (.slice x4 Y.clock.length y4)).set p9x6 1 (.slice x5 Y.lives.length y5)).set p9x6 2 (.slice x6 Y.tals.length y6)
                  have rg := ((hg6.setCell (p := ⟨wn5.heap.size, 0, none⟩) ge9 (.slice x4 Y.clock.length y4)).setCell (p := ⟨wn5.heap.size, 1, none⟩) ge9 (.slice x5 Y.lives.length y5)).setCell (p := ⟨wn5.heap.size, 2, none⟩) ge9 (.slice x6 Y.tals.length y6)
                  refine hK.out _ _ trivial (fun _ => ?_)
                  clear hK K c0 c1 c2 f0 f1 f2
                  try simp only [Act.put, List.setIfInBounds_toArray, List.set_cons_zero, List.set_cons_succ]
                  have c0 := r10.get 0 rfl
                  have f0 := r10.free 0
                  have c1 := r10.get 1 rfl
                  have f1 := r10.free 1
                  refine wpAnyH_ready (rs := [12]) (by kernel_rfl) (by simp) ?_
                  refine AllReadyH.cons (o := _) rfl (fun K hK => ?_) AllReadyH.nil
                  go_simp
                  have s9 := (r9.away (g' := wn2.heap.size) (i := 0) (v := .int .i64 P2) (Ne.symm ne)).away (g' := wn2.heap.size) (i := 1) (v := .int .i64 A2) (Ne.symm ne)
                  have s10 := (r10.set 0 (.int .i64 P2)).set 1 (.int .i64 A2)
                  have sY := (rY.set p10x5 0 (.int .i64 P2)).set p10x5 1 (.int .i64 A2)
                  have sg := (rg.setCell (p := ⟨wn2.heap.size, 0, none⟩) ge10 (.int .i64 P2)).setCell (p := ⟨wn2.heap.size, 1, none⟩) ge10 (.int .i64 A2)
                  refine hK.out _ _ trivial (fun _ => ?_)
                  clear hK K c0 c1 f0 f1
                  try simp only [Act.put, List.setIfInBounds_toArray, List.set_cons_zero, List.set_cons_succ]
                  refine wpAnyH_done (by kernel_rfl) ?_ _
                  go_wp2_with fail
                  go_meet
                  exact ⟨_, _, _, _, _, _, _, _, rfl, rfl, hide s9, hide s10, hide sY.st, hide sg⟩
              · go_simp
                obtain ⟨wn7, hw7⟩ : ∃ wn7, Hid (wn1.alloc (.cells #[.slice none 0 0, .slice none 0 0, .slice none 0 0] 35) = wn7) := ⟨_, rfl⟩
                have hbp : Below wn1.heap.size wn1 wn7 := by rw [← hw7.out]; exact Below.plus (Below.refl _ wn1) (.cells #[.slice none 0 0, .slice none 0 0, .slice none 0 0] 35)
                have b9x7 : Box wn7 wn1.heap.size [.slice none 0 0, .slice none 0 0, .slice none 0 0] 35 := by rw [← hw7.out]; exact Box.new wn1 [.slice none 0 0, .slice none 0 0, .slice none 0 0] 35
                have hg7 : Grew W5 wn7 := grew_step hg1 hbp
                have ge9 : W5.heap.size ≤ wn1.heap.size := hg1.size
                have hS7 := hS.below hbp (Nat.le_refl _)
                rw [hw7.out]
                refine hK.out _ _ trivial (fun _ => ?_)
                clear hK K hbp
                try simp only [Act.put, List.setIfInBounds_toArray, List.set_cons_zero, List.set_cons_succ]
                refine wpAnyH_ready (rs := [5, 10]) (by kernel_rfl) (by simp) ?_
                refine AllReadyH.cons (o := _) rfl (fun K hK => ?_) (AllReadyH.cons (o := _) rfl (fun K hK => ?_) AllReadyH.nil)
                · go_simp
                  refine (play_state _ _ (z0 k) p _ hS7.st (M5.out.below hg7 (Nat.le_refl _))).mono ?_
                  rintro e wn8 ⟨rv, rfl, hY0, hb⟩
                  rw [HP2.out, HA2.out]
                  rw [HY.out] at hY0
                  obtain ⟨x4, y4, x5, y5, x6, y6, hvy⟩ := hY0.formW
                  subst hvy
                  have hg8 : Grew W5 wn8 := grew_step hg7 hb
                  have b9x8 := b9x7.below hb (Nat.le_refl _)
                  have p9x8 := apart_lo hY0 (g := wn1.heap.size) (by have := b9x7.lt; omega)
                  refine hK.out _ _ trivial (fun _ => ?_)
                  clear hK K hb
                  try simp only [Act.put, List.setIfInBounds_toArray, List.set_cons_zero, List.set_cons_succ]
                  refine take_yes 6 40 (.tuple #[.agg #[.slice x4 Y.clock.length y4, .slice x5 Y.lives.length y5, .slice x6 Y.tals.length y6], .agg #[.int .i64 P2, .int .i64 A2]]) rfl rfl (by kernel_rfl) (by kernel_rfl) (by kernel_rfl) (fun _ _ _ h => h) rfl (by intro w hSw; (try dsimp only at hSw); go_simp) (by assumption) ?_
                  simp only [Act.put, List.setIfInBounds_toArray, List.set_cons_zero, List.set_cons_succ]
                  refine take_yes 7 47 (.agg #[.slice x4 Y.clock.length y4, .slice x5 Y.lives.length y5, .slice x6 Y.tals.length y6]) rfl rfl (by kernel_rfl) (by kernel_rfl) (by kernel_rfl) (fun _ _ _ h => h) rfl (by intro w hSw; (try dsimp only at hSw); go_simp) (by assumption) ?_
                  simp only [Act.put, List.setIfInBounds_toArray, List.set_cons_zero, List.set_cons_succ]
                  refine take_yes 8 48 (.agg #[.int .i64 P2, .int .i64 A2]) rfl rfl (by kernel_rfl) (by kernel_rfl) (by kernel_rfl) (fun _ _ _ h => h) rfl (by intro w hSw; (try dsimp only at hSw); go_simp) (by assumption) ?_
                  simp only [Act.put, List.setIfInBounds_toArray, List.set_cons_zero, List.set_cons_succ]
                  refine wpAnyH_ready (rs := [10]) (by kernel_rfl) (by simp) ?_
                  refine AllReadyH.cons (o := _) rfl (fun K hK => ?_) AllReadyH.nil
                  go_simp
                  obtain ⟨wn9, hw9⟩ : ∃ wn9, Hid (wn8.alloc (.cells #[.int .i64 0, .int .i64 0] 29) = wn9) := ⟨_, rfl⟩
                  have hbp : Below wn8.heap.size wn8 wn9 := by rw [← hw9.out]; exact Below.plus (Below.refl _ wn8) (.cells #[.int .i64 0, .int .i64 0] 29)
                  have b10x9 : Box wn9 wn8.heap.size [.int .i64 0, .int .i64 0] 29 := by rw [← hw9.out]; exact Box.new wn8 [.int .i64 0, .int .i64 0] 29
                  have hg9 : Grew W5 wn9 := grew_step hg8 hbp
                  have ge10 : W5.heap.size ≤ wn8.heap.size := hg8.size
                  have b9x9 := b9x8.below hbp (Nat.le_refl _)
                  have ne910 : wn1.heap.size ≠ wn8.heap.size := Nat.ne_of_lt b9x8.lt
                  have p10x9 := apart_hi hY0 (g := wn8.heap.size) (Nat.le_refl _)
                  have hY9 := hY0.below hbp (Nat.le_refl _)
                  rw [hw9.out]
                  refine hK.out _ _ trivial (fun _ => ?_)
                  clear hK K hbp
                  try simp only [Act.put, List.setIfInBounds_toArray, List.set_cons_zero, List.set_cons_succ]
                  have c0 := b9x9.get 0 rfl
                  have f0 := b9x9.free 0
                  have c1 := b9x9.get 1 rfl
                  have f1 := b9x9.free 1
                  have c2 := b9x9.get 2 rfl
                  have f2 := b9x9.free 2
                  refine wpAnyH_ready (rs := [11]) (by kernel_rfl) (by simp) ?_
                  refine AllReadyH.cons (o := _) rfl (fun K hK => ?_) AllReadyH.nil
                  go_simp
                  have ne : wn8.heap.size ≠ wn1.heap.size := Ne.symm ne910
                  have r9 := ((b9x9.set 0 (.slice x4 Y.clock.length y4)).set 1 (.slice x5 Y.lives.length y5)).set 2 (.slice x6 Y.tals.length y6)
                  have r10 := ((b10x9.away (g' := wn1.heap.size) (i := 0) (v := .slice x4 Y.clock.length y4) ne).away (g' := wn1.heap.size) (i := 1) (v := .slice x5 Y.lives.length y5) ne).away (g' := wn1.heap.size) (i := 2) (v := .slice x6 Y.tals.length y6) ne
                  have rY := ((hY9.set p9x8 0 (.slice x4 Y.clock.length y4)).set p9x8 1 (.slice x5 Y.lives.length y5)).set p9x8 2 (.slice x6 Y.tals.length y6)
                  have rg := ((hg9.setCell (p := ⟨wn1.heap.size, 0, none⟩) ge9 (.slice x4 Y.clock.length y4)).setCell (p := ⟨wn1.heap.size, 1, none⟩) ge9 (.slice x5 Y.lives.length y5)).setCell (p := ⟨wn1.heap.size, 2, none⟩) ge9 (.slice x6 Y.tals.length y6)
                  refine hK.out _ _ trivial (fun _ => ?_)
                  clear hK K c0 c1 c2 f0 f1 f2
                  try simp only [Act.put, List.setIfInBounds_toArray, List.set_cons_zero, List.set_cons_succ]
                  have c0 := r10.get 0 rfl
                  have f0 := r10.free 0
                  have c1 := r10.get 1 rfl
                  have f1 := r10.free 1
                  refine wpAnyH_ready (rs := [12]) (by kernel_rfl) (by simp) ?_
                  refine AllReadyH.cons (o := _) rfl (fun K hK => ?_) AllReadyH.nil
                  go_simp
                  have s9 := (r9.away (g' := wn8.heap.size) (i := 0) (v := .int .i64 P2) (Ne.symm ne)).away (g' := wn8.heap.size) (i := 1) (v := .int .i64 A2) (Ne.symm ne)
                  have s10 := (r10.set 0 (.int .i64 P2)).set 1 (.int .i64 A2)
                  have sY := (rY.set p10x9 0 (.int .i64 P2)).set p10x9 1 (.int .i64 A2)
                  have sg := (rg.setCell (p := ⟨wn8.heap.size, 0, none⟩) ge10 (.int .i64 P2)).setCell (p := ⟨wn8.heap.size, 1, none⟩) ge10 (.int .i64 A2)
                  refine hK.out _ _ trivial (fun _ => ?_)
                  clear hK K c0 c1 f0 f1
                  try simp only [Act.put, List.setIfInBounds_toArray, List.set_cons_zero, List.set_cons_succ]
                  refine wpAnyH_done (by kernel_rfl) ?_ _
                  go_wp2_with fail
                  go_meet
                  exact ⟨_, _, _, _, _, _, _, _, rfl, rfl, hide s9, hide s10, hide sY.st, hide sg⟩
                · go_simp
                  obtain ⟨wn10, hw10⟩ : ∃ wn10, Hid (wn7.alloc (.cells #[.int .i64 0, .int .i64 0] 29) = wn10) := ⟨_, rfl⟩
                  have hbp : Below wn7.heap.size wn7 wn10 := by rw [← hw10.out]; exact Below.plus (Below.refl _ wn7) (.cells #[.int .i64 0, .int .i64 0] 29)
                  have b10x10 : Box wn10 wn7.heap.size [.int .i64 0, .int .i64 0] 29 := by rw [← hw10.out]; exact Box.new wn7 [.int .i64 0, .int .i64 0] 29
                  have hg10 : Grew W5 wn10 := grew_step hg7 hbp
                  have ge10 : W5.heap.size ≤ wn7.heap.size := hg7.size
                  have b9x10 := b9x7.below hbp (Nat.le_refl _)
                  have ne910 : wn1.heap.size ≠ wn7.heap.size := Nat.ne_of_lt b9x7.lt
                  have hS10 := hS7.below hbp (Nat.le_refl _)
                  rw [hw10.out]
                  refine hK.out _ _ trivial (fun _ => ?_)
                  clear hK K hbp
                  try simp only [Act.put, List.setIfInBounds_toArray, List.set_cons_zero, List.set_cons_succ]
                  refine wpAnyH_ready (rs := [5]) (by kernel_rfl) (by simp) ?_
                  refine AllReadyH.cons (o := _) rfl (fun K hK => ?_) AllReadyH.nil
                  go_simp
                  refine (play_state _ _ (z0 k) p _ hS10.st (M5.out.below hg10 (Nat.le_refl _))).mono ?_
                  rintro e wn11 ⟨rv, rfl, hY0, hb⟩
                  rw [HP2.out, HA2.out]
                  rw [HY.out] at hY0
                  obtain ⟨x4, y4, x5, y5, x6, y6, hvy⟩ := hY0.formW
                  subst hvy
                  have hg11 : Grew W5 wn11 := grew_step hg10 hb
                  have b9x11 := b9x10.below hb (Nat.le_refl _)
                  have b10x11 := b10x10.below hb (Nat.le_refl _)
                  have p9x11 := apart_lo hY0 (g := wn1.heap.size) (by have := b9x10.lt; omega)
                  have p10x11 := apart_lo hY0 (g := wn7.heap.size) (by have := b10x10.lt; omega)
                  refine hK.out _ _ trivial (fun _ => ?_)
                  clear hK K hb
                  try simp only [Act.put, List.setIfInBounds_toArray, List.set_cons_zero, List.set_cons_succ]
                  refine take_yes 6 40 (.tuple #[.agg #[.slice x4 Y.clock.length y4, .slice x5 Y.lives.length y5, .slice x6 Y.tals.length y6], .agg #[.int .i64 P2, .int .i64 A2]]) rfl rfl (by kernel_rfl) (by kernel_rfl) (by kernel_rfl) (fun _ _ _ h => h) rfl (by intro w hSw; (try dsimp only at hSw); go_simp) (by assumption) ?_
                  simp only [Act.put, List.setIfInBounds_toArray, List.set_cons_zero, List.set_cons_succ]
                  refine take_yes 7 47 (.agg #[.slice x4 Y.clock.length y4, .slice x5 Y.lives.length y5, .slice x6 Y.tals.length y6]) rfl rfl (by kernel_rfl) (by kernel_rfl) (by kernel_rfl) (fun _ _ _ h => h) rfl (by intro w hSw; (try dsimp only at hSw); go_simp) (by assumption) ?_
                  simp only [Act.put, List.setIfInBounds_toArray, List.set_cons_zero, List.set_cons_succ]
                  refine take_yes 8 48 (.agg #[.int .i64 P2, .int .i64 A2]) rfl rfl (by kernel_rfl) (by kernel_rfl) (by kernel_rfl) (fun _ _ _ h => h) rfl (by intro w hSw; (try dsimp only at hSw); go_simp) (by assumption) ?_
                  simp only [Act.put, List.setIfInBounds_toArray, List.set_cons_zero, List.set_cons_succ]
                  have c0 := b9x11.get 0 rfl
                  have f0 := b9x11.free 0
                  have c1 := b9x11.get 1 rfl
                  have f1 := b9x11.free 1
                  have c2 := b9x11.get 2 rfl
                  have f2 := b9x11.free 2
                  refine wpAnyH_ready (rs := [11]) (by kernel_rfl) (by simp) ?_
                  refine AllReadyH.cons (o := _) rfl (fun K hK => ?_) AllReadyH.nil
                  go_simp
                  have ne : wn7.heap.size ≠ wn1.heap.size := Ne.symm ne910
                  have r9 := ((b9x11.set 0 (.slice x4 Y.clock.length y4)).set 1 (.slice x5 Y.lives.length y5)).set 2 (.slice x6 Y.tals.length y6)
                  have r10 := ((b10x11.away (g' := wn1.heap.size) (i := 0) (v := .slice x4 Y.clock.length y4) ne).away (g' := wn1.heap.size) (i := 1) (v := .slice x5 Y.lives.length y5) ne).away (g' := wn1.heap.size) (i := 2) (v := .slice x6 Y.tals.length y6) ne
                  have rY := ((hY0.set p9x11 0 (.slice x4 Y.clock.length y4)).set p9x11 1 (.slice x5 Y.lives.length y5)).set p9x11 2 (.slice x6 Y.tals.length y6)
                  have rg := ((hg11.setCell (p := ⟨wn1.heap.size, 0, none⟩) ge9 (.slice x4 Y.clock.length y4)).setCell (p := ⟨wn1.heap.size, 1, none⟩) ge9 (.slice x5 Y.lives.length y5)).setCell (p := ⟨wn1.heap.size, 2, none⟩) ge9 (.slice x6 Y.tals.length y6)
                  refine hK.out _ _ trivial (fun _ => ?_)
                  clear hK K c0 c1 c2 f0 f1 f2
                  try simp only [Act.put, List.setIfInBounds_toArray, List.set_cons_zero, List.set_cons_succ]
                  have c0 := r10.get 0 rfl
                  have f0 := r10.free 0
                  have c1 := r10.get 1 rfl
                  have f1 := r10.free 1
                  refine wpAnyH_ready (rs := [12]) (by kernel_rfl) (by simp) ?_
                  refine AllReadyH.cons (o := _) rfl (fun K hK => ?_) AllReadyH.nil
                  go_simp
                  have s9 := (r9.away (g' := wn7.heap.size) (i := 0) (v := .int .i64 P2) (Ne.symm ne)).away (g' := wn7.heap.size) (i := 1) (v := .int .i64 A2) (Ne.symm ne)
                  have s10 := (r10.set 0 (.int .i64 P2)).set 1 (.int .i64 A2)
                  have sY := (rY.set p10x11 0 (.int .i64 P2)).set p10x11 1 (.int .i64 A2)
                  have sg := (rg.setCell (p := ⟨wn7.heap.size, 0, none⟩) ge10 (.int .i64 P2)).setCell (p := ⟨wn7.heap.size, 1, none⟩) ge10 (.int .i64 A2)
                  refine hK.out _ _ trivial (fun _ => ?_)
                  clear hK K c0 c1 f0 f1
                  try simp only [Act.put, List.setIfInBounds_toArray, List.set_cons_zero, List.set_cons_succ]
                  refine wpAnyH_done (by kernel_rfl) ?_ _
                  go_wp2_with fail
                  go_meet
                  exact ⟨_, _, _, _, _, _, _, _, rfl, rfl, hide s9, hide s10, hide sY.st, hide sg⟩
              · go_simp
                obtain ⟨wn12, hw12⟩ : ∃ wn12, Hid (wn1.alloc (.cells #[.int .i64 0, .int .i64 0] 29) = wn12) := ⟨_, rfl⟩
                have hbp : Below wn1.heap.size wn1 wn12 := by rw [← hw12.out]; exact Below.plus (Below.refl _ wn1) (.cells #[.int .i64 0, .int .i64 0] 29)
                have b10x12 : Box wn12 wn1.heap.size [.int .i64 0, .int .i64 0] 29 := by rw [← hw12.out]; exact Box.new wn1 [.int .i64 0, .int .i64 0] 29
                have hg12 : Grew W5 wn12 := grew_step hg1 hbp
                have ge10 : W5.heap.size ≤ wn1.heap.size := hg1.size
                have hS12 := hS.below hbp (Nat.le_refl _)
                rw [hw12.out]
                refine hK.out _ _ trivial (fun _ => ?_)
                clear hK K hbp
                try simp only [Act.put, List.setIfInBounds_toArray, List.set_cons_zero, List.set_cons_succ]
                refine wpAnyH_ready (rs := [5, 9]) (by kernel_rfl) (by simp) ?_
                refine AllReadyH.cons (o := _) rfl (fun K hK => ?_) (AllReadyH.cons (o := _) rfl (fun K hK => ?_) AllReadyH.nil)
                · go_simp
                  refine (play_state _ _ (z0 k) p _ hS12.st (M5.out.below hg12 (Nat.le_refl _))).mono ?_
                  rintro e wn13 ⟨rv, rfl, hY0, hb⟩
                  rw [HP2.out, HA2.out]
                  rw [HY.out] at hY0
                  obtain ⟨x4, y4, x5, y5, x6, y6, hvy⟩ := hY0.formW
                  subst hvy
                  have hg13 : Grew W5 wn13 := grew_step hg12 hb
                  have b10x13 := b10x12.below hb (Nat.le_refl _)
                  have p10x13 := apart_lo hY0 (g := wn1.heap.size) (by have := b10x12.lt; omega)
                  refine hK.out _ _ trivial (fun _ => ?_)
                  clear hK K hb
                  try simp only [Act.put, List.setIfInBounds_toArray, List.set_cons_zero, List.set_cons_succ]
                  refine take_yes 6 40 (.tuple #[.agg #[.slice x4 Y.clock.length y4, .slice x5 Y.lives.length y5, .slice x6 Y.tals.length y6], .agg #[.int .i64 P2, .int .i64 A2]]) rfl rfl (by kernel_rfl) (by kernel_rfl) (by kernel_rfl) (fun _ _ _ h => h) rfl (by intro w hSw; (try dsimp only at hSw); go_simp) (by assumption) ?_
                  simp only [Act.put, List.setIfInBounds_toArray, List.set_cons_zero, List.set_cons_succ]
                  refine take_yes 7 47 (.agg #[.slice x4 Y.clock.length y4, .slice x5 Y.lives.length y5, .slice x6 Y.tals.length y6]) rfl rfl (by kernel_rfl) (by kernel_rfl) (by kernel_rfl) (fun _ _ _ h => h) rfl (by intro w hSw; (try dsimp only at hSw); go_simp) (by assumption) ?_
                  simp only [Act.put, List.setIfInBounds_toArray, List.set_cons_zero, List.set_cons_succ]
                  refine take_yes 8 48 (.agg #[.int .i64 P2, .int .i64 A2]) rfl rfl (by kernel_rfl) (by kernel_rfl) (by kernel_rfl) (fun _ _ _ h => h) rfl (by intro w hSw; (try dsimp only at hSw); go_simp) (by assumption) ?_
                  simp only [Act.put, List.setIfInBounds_toArray, List.set_cons_zero, List.set_cons_succ]
                  refine wpAnyH_ready (rs := [9]) (by kernel_rfl) (by simp) ?_
                  refine AllReadyH.cons (o := _) rfl (fun K hK => ?_) AllReadyH.nil
                  go_simp
                  obtain ⟨wn14, hw14⟩ : ∃ wn14, Hid (wn13.alloc (.cells #[.slice none 0 0, .slice none 0 0, .slice none 0 0] 35) = wn14) := ⟨_, rfl⟩
                  have hbp : Below wn13.heap.size wn13 wn14 := by rw [← hw14.out]; exact Below.plus (Below.refl _ wn13) (.cells #[.slice none 0 0, .slice none 0 0, .slice none 0 0] 35)
                  have b9x14 : Box wn14 wn13.heap.size [.slice none 0 0, .slice none 0 0, .slice none 0 0] 35 := by rw [← hw14.out]; exact Box.new wn13 [.slice none 0 0, .slice none 0 0, .slice none 0 0] 35
                  have hg14 : Grew W5 wn14 := grew_step hg13 hbp
                  have ge9 : W5.heap.size ≤ wn13.heap.size := hg13.size
                  have b10x14 := b10x13.below hbp (Nat.le_refl _)
                  have ne109 : wn1.heap.size ≠ wn13.heap.size := Nat.ne_of_lt b10x13.lt
                  have p9x14 := apart_hi hY0 (g := wn13.heap.size) (Nat.le_refl _)
                  have hY14 := hY0.below hbp (Nat.le_refl _)
                  rw [hw14.out]
                  refine hK.out _ _ trivial (fun _ => ?_)
                  clear hK K hbp
                  try simp only [Act.put, List.setIfInBounds_toArray, List.set_cons_zero, List.set_cons_succ]
                  have c0 := b9x14.get 0 rfl
                  have f0 := b9x14.free 0
                  have c1 := b9x14.get 1 rfl
                  have f1 := b9x14.free 1
                  have c2 := b9x14.get 2 rfl
                  have f2 := b9x14.free 2
                  refine wpAnyH_ready (rs := [11]) (by kernel_rfl) (by simp) ?_
                  refine AllReadyH.cons (o := _) rfl (fun K hK => ?_) AllReadyH.nil
                  go_simp
                  have ne : wn1.heap.size ≠ wn13.heap.size := ne109
                  have r9 := ((b9x14.set 0 (.slice x4 Y.clock.length y4)).set 1 (.slice x5 Y.lives.length y5)).set 2 (.slice x6 Y.tals.length y6)
                  have r10 := ((b10x14.away (g' := wn13.heap.size) (i := 0) (v := .slice x4 Y.clock.length y4) ne).away (g' := wn13.heap.size) (i := 1) (v := .slice x5 Y.lives.length y5) ne).away (g' := wn13.heap.size) (i := 2) (v := .slice x6 Y.tals.length y6) ne
                  have rY := ((hY14.set p9x14 0 (.slice x4 Y.clock.length y4)).set p9x14 1 (.slice x5 Y.lives.length y5)).set p9x14 2 (.slice x6 Y.tals.length y6)
                  have rg := ((hg14.setCell (p := ⟨wn13.heap.size, 0, none⟩) ge9 (.slice x4 Y.clock.length y4)).setCell (p := ⟨wn13.heap.size, 1, none⟩) ge9 (.slice x5 Y.lives.length y5)).setCell (p := ⟨wn13.heap.size, 2, none⟩) ge9 (.slice x6 Y.tals.length y6)
                  refine hK.out _ _ trivial (fun _ => ?_)
                  clear hK K c0 c1 c2 f0 f1 f2
                  try simp only [Act.put, List.setIfInBounds_toArray, List.set_cons_zero, List.set_cons_succ]
                  have c0 := r10.get 0 rfl
                  have f0 := r10.free 0
                  have c1 := r10.get 1 rfl
                  have f1 := r10.free 1
                  refine wpAnyH_ready (rs := [12]) (by kernel_rfl) (by simp) ?_
                  refine AllReadyH.cons (o := _) rfl (fun K hK => ?_) AllReadyH.nil
                  go_simp
                  have s9 := (r9.away (g' := wn1.heap.size) (i := 0) (v := .int .i64 P2) (Ne.symm ne)).away (g' := wn1.heap.size) (i := 1) (v := .int .i64 A2) (Ne.symm ne)
                  have s10 := (r10.set 0 (.int .i64 P2)).set 1 (.int .i64 A2)
                  have sY := (rY.set p10x13 0 (.int .i64 P2)).set p10x13 1 (.int .i64 A2)
                  have sg := (rg.setCell (p := ⟨wn1.heap.size, 0, none⟩) ge10 (.int .i64 P2)).setCell (p := ⟨wn1.heap.size, 1, none⟩) ge10 (.int .i64 A2)
                  refine hK.out _ _ trivial (fun _ => ?_)
                  clear hK K c0 c1 f0 f1
                  try simp only [Act.put, List.setIfInBounds_toArray, List.set_cons_zero, List.set_cons_succ]
                  refine wpAnyH_done (by kernel_rfl) ?_ _
                  go_wp2_with fail
                  go_meet
                  exact ⟨_, _, _, _, _, _, _, _, rfl, rfl, hide s9, hide s10, hide sY.st, hide sg⟩
                · go_simp
                  obtain ⟨wn15, hw15⟩ : ∃ wn15, Hid (wn12.alloc (.cells #[.slice none 0 0, .slice none 0 0, .slice none 0 0] 35) = wn15) := ⟨_, rfl⟩
                  have hbp : Below wn12.heap.size wn12 wn15 := by rw [← hw15.out]; exact Below.plus (Below.refl _ wn12) (.cells #[.slice none 0 0, .slice none 0 0, .slice none 0 0] 35)
                  have b9x15 : Box wn15 wn12.heap.size [.slice none 0 0, .slice none 0 0, .slice none 0 0] 35 := by rw [← hw15.out]; exact Box.new wn12 [.slice none 0 0, .slice none 0 0, .slice none 0 0] 35
                  have hg15 : Grew W5 wn15 := grew_step hg12 hbp
                  have ge9 : W5.heap.size ≤ wn12.heap.size := hg12.size
                  have b10x15 := b10x12.below hbp (Nat.le_refl _)
                  have ne109 : wn1.heap.size ≠ wn12.heap.size := Nat.ne_of_lt b10x12.lt
                  have hS15 := hS12.below hbp (Nat.le_refl _)
                  rw [hw15.out]
                  refine hK.out _ _ trivial (fun _ => ?_)
                  clear hK K hbp
                  try simp only [Act.put, List.setIfInBounds_toArray, List.set_cons_zero, List.set_cons_succ]
                  refine wpAnyH_ready (rs := [5]) (by kernel_rfl) (by simp) ?_
                  refine AllReadyH.cons (o := _) rfl (fun K hK => ?_) AllReadyH.nil
                  go_simp
                  refine (play_state _ _ (z0 k) p _ hS15.st (M5.out.below hg15 (Nat.le_refl _))).mono ?_
                  rintro e wn16 ⟨rv, rfl, hY0, hb⟩
                  rw [HP2.out, HA2.out]
                  rw [HY.out] at hY0
                  obtain ⟨x4, y4, x5, y5, x6, y6, hvy⟩ := hY0.formW
                  subst hvy
                  have hg16 : Grew W5 wn16 := grew_step hg15 hb
                  have b10x16 := b10x15.below hb (Nat.le_refl _)
                  have b9x16 := b9x15.below hb (Nat.le_refl _)
                  have p10x16 := apart_lo hY0 (g := wn1.heap.size) (by have := b10x15.lt; omega)
                  have p9x16 := apart_lo hY0 (g := wn12.heap.size) (by have := b9x15.lt; omega)
                  refine hK.out _ _ trivial (fun _ => ?_)
                  clear hK K hb
                  try simp only [Act.put, List.setIfInBounds_toArray, List.set_cons_zero, List.set_cons_succ]
                  refine take_yes 6 40 (.tuple #[.agg #[.slice x4 Y.clock.length y4, .slice x5 Y.lives.length y5, .slice x6 Y.tals.length y6], .agg #[.int .i64 P2, .int .i64 A2]]) rfl rfl (by kernel_rfl) (by kernel_rfl) (by kernel_rfl) (fun _ _ _ h => h) rfl (by intro w hSw; (try dsimp only at hSw); go_simp) (by assumption) ?_
                  simp only [Act.put, List.setIfInBounds_toArray, List.set_cons_zero, List.set_cons_succ]
                  refine take_yes 7 47 (.agg #[.slice x4 Y.clock.length y4, .slice x5 Y.lives.length y5, .slice x6 Y.tals.length y6]) rfl rfl (by kernel_rfl) (by kernel_rfl) (by kernel_rfl) (fun _ _ _ h => h) rfl (by intro w hSw; (try dsimp only at hSw); go_simp) (by assumption) ?_
                  simp only [Act.put, List.setIfInBounds_toArray, List.set_cons_zero, List.set_cons_succ]
                  refine take_yes 8 48 (.agg #[.int .i64 P2, .int .i64 A2]) rfl rfl (by kernel_rfl) (by kernel_rfl) (by kernel_rfl) (fun _ _ _ h => h) rfl (by intro w hSw; (try dsimp only at hSw); go_simp) (by assumption) ?_
                  simp only [Act.put, List.setIfInBounds_toArray, List.set_cons_zero, List.set_cons_succ]
                  have c0 := b9x16.get 0 rfl
                  have f0 := b9x16.free 0
                  have c1 := b9x16.get 1 rfl
                  have f1 := b9x16.free 1
                  have c2 := b9x16.get 2 rfl
                  have f2 := b9x16.free 2
                  refine wpAnyH_ready (rs := [11]) (by kernel_rfl) (by simp) ?_
                  refine AllReadyH.cons (o := _) rfl (fun K hK => ?_) AllReadyH.nil
                  go_simp
                  have ne : wn1.heap.size ≠ wn12.heap.size := ne109
                  have r9 := ((b9x16.set 0 (.slice x4 Y.clock.length y4)).set 1 (.slice x5 Y.lives.length y5)).set 2 (.slice x6 Y.tals.length y6)
                  have r10 := ((b10x16.away (g' := wn12.heap.size) (i := 0) (v := .slice x4 Y.clock.length y4) ne).away (g' := wn12.heap.size) (i := 1) (v := .slice x5 Y.lives.length y5) ne).away (g' := wn12.heap.size) (i := 2) (v := .slice x6 Y.tals.length y6) ne
                  have rY := ((hY0.set p9x16 0 (.slice x4 Y.clock.length y4)).set p9x16 1 (.slice x5 Y.lives.length y5)).set p9x16 2 (.slice x6 Y.tals.length y6)
                  have rg := ((hg16.setCell (p := ⟨wn12.heap.size, 0, none⟩) ge9 (.slice x4 Y.clock.length y4)).setCell (p := ⟨wn12.heap.size, 1, none⟩) ge9 (.slice x5 Y.lives.length y5)).setCell (p := ⟨wn12.heap.size, 2, none⟩) ge9 (.slice x6 Y.tals.length y6)
                  refine hK.out _ _ trivial (fun _ => ?_)
                  clear hK K c0 c1 c2 f0 f1 f2
                  try simp only [Act.put, List.setIfInBounds_toArray, List.set_cons_zero, List.set_cons_succ]
                  have c0 := r10.get 0 rfl
                  have f0 := r10.free 0
                  have c1 := r10.get 1 rfl
                  have f1 := r10.free 1
                  refine wpAnyH_ready (rs := [12]) (by kernel_rfl) (by simp) ?_
                  refine AllReadyH.cons (o := _) rfl (fun K hK => ?_) AllReadyH.nil
                  go_simp
                  have s9 := (r9.away (g' := wn1.heap.size) (i := 0) (v := .int .i64 P2) (Ne.symm ne)).away (g' := wn1.heap.size) (i := 1) (v := .int .i64 A2) (Ne.symm ne)
                  have s10 := (r10.set 0 (.int .i64 P2)).set 1 (.int .i64 A2)
                  have sY := (rY.set p10x16 0 (.int .i64 P2)).set p10x16 1 (.int .i64 A2)
                  have sg := (rg.setCell (p := ⟨wn1.heap.size, 0, none⟩) ge10 (.int .i64 P2)).setCell (p := ⟨wn1.heap.size, 1, none⟩) ge10 (.int .i64 A2)
                  refine hK.out _ _ trivial (fun _ => ?_)
                  clear hK K c0 c1 f0 f1
                  try simp only [Act.put, List.setIfInBounds_toArray, List.set_cons_zero, List.set_cons_succ]
                  refine wpAnyH_done (by kernel_rfl) ?_ _
                  go_wp2_with fail
                  go_meet
                  exact ⟨_, _, _, _, _, _, _, _, rfl, rfl, hide s9, hide s10, hide sY.st, hide sg⟩
            · go_simp
              obtain ⟨wn17, hw17⟩ : ∃ wn17, Hid (wd.alloc (.cells #[.slice none 0 0, .slice none 0 0, .slice none 0 0] 35) = wn17) := ⟨_, rfl⟩
              have hbp : Below wd.heap.size wd wn17 := by rw [← hw17.out]; exact Below.plus (Below.refl _ wd) (.cells #[.slice none 0 0, .slice none 0 0, .slice none 0 0] 35)
              have b9x17 : Box wn17 wd.heap.size [.slice none 0 0, .slice none 0 0, .slice none 0 0] 35 := by rw [← hw17.out]; exact Box.new wd [.slice none 0 0, .slice none 0 0, .slice none 0 0] 35
              have hg17 : Grew W5 wn17 := grew_step hg0 hbp
              have ge9 : W5.heap.size ≤ wd.heap.size := hg0.size
              rw [hw17.out]
              refine hK.out _ _ trivial (fun _ => ?_)
              clear hK K hbp
              try simp only [Act.put, List.setIfInBounds_toArray, List.set_cons_zero, List.set_cons_succ]
              refine wpAnyH_ready (rs := [1, 10]) (by kernel_rfl) (by simp) ?_
              refine AllReadyH.cons (o := _) rfl (fun K hK => ?_) (AllReadyH.cons (o := _) rfl (fun K hK => ?_) AllReadyH.nil)
              · go_simp
                refine (start_any (k := k) HK6.out _).mono ?_
                rintro e wn18 ⟨vS, rfl, hS, hb⟩
                have hg18 : Grew W5 wn18 := grew_step hg17 hb
                have b9x18 := b9x17.below hb (Nat.le_refl _)
                refine hK.out _ _ trivial (fun _ => ?_)
                clear hK K hb
                try simp only [Act.put, List.setIfInBounds_toArray, List.set_cons_zero, List.set_cons_succ]
                refine wpAnyH_ready (rs := [5, 10]) (by kernel_rfl) (by simp) ?_
                refine AllReadyH.cons (o := _) rfl (fun K hK => ?_) (AllReadyH.cons (o := _) rfl (fun K hK => ?_) AllReadyH.nil)
                · go_simp
                  refine (play_state _ _ (z0 k) p _ hS.st (M5.out.below hg18 (Nat.le_refl _))).mono ?_
                  rintro e wn19 ⟨rv, rfl, hY0, hb⟩
                  rw [HP2.out, HA2.out]
                  rw [HY.out] at hY0
                  obtain ⟨x4, y4, x5, y5, x6, y6, hvy⟩ := hY0.formW
                  subst hvy
                  have hg19 : Grew W5 wn19 := grew_step hg18 hb
                  have b9x19 := b9x18.below hb (Nat.le_refl _)
                  have p9x19 := apart_lo hY0 (g := wd.heap.size) (by have := b9x18.lt; omega)
                  refine hK.out _ _ trivial (fun _ => ?_)
                  clear hK K hb
                  try simp only [Act.put, List.setIfInBounds_toArray, List.set_cons_zero, List.set_cons_succ]
                  refine take_yes 6 40 (.tuple #[.agg #[.slice x4 Y.clock.length y4, .slice x5 Y.lives.length y5, .slice x6 Y.tals.length y6], .agg #[.int .i64 P2, .int .i64 A2]]) rfl rfl (by kernel_rfl) (by kernel_rfl) (by kernel_rfl) (fun _ _ _ h => h) rfl (by intro w hSw; (try dsimp only at hSw); go_simp) (by assumption) ?_
                  simp only [Act.put, List.setIfInBounds_toArray, List.set_cons_zero, List.set_cons_succ]
                  refine take_yes 7 47 (.agg #[.slice x4 Y.clock.length y4, .slice x5 Y.lives.length y5, .slice x6 Y.tals.length y6]) rfl rfl (by kernel_rfl) (by kernel_rfl) (by kernel_rfl) (fun _ _ _ h => h) rfl (by intro w hSw; (try dsimp only at hSw); go_simp) (by assumption) ?_
                  simp only [Act.put, List.setIfInBounds_toArray, List.set_cons_zero, List.set_cons_succ]
                  refine take_yes 8 48 (.agg #[.int .i64 P2, .int .i64 A2]) rfl rfl (by kernel_rfl) (by kernel_rfl) (by kernel_rfl) (fun _ _ _ h => h) rfl (by intro w hSw; (try dsimp only at hSw); go_simp) (by assumption) ?_
                  simp only [Act.put, List.setIfInBounds_toArray, List.set_cons_zero, List.set_cons_succ]
                  refine wpAnyH_ready (rs := [10]) (by kernel_rfl) (by simp) ?_
                  refine AllReadyH.cons (o := _) rfl (fun K hK => ?_) AllReadyH.nil
                  go_simp
                  obtain ⟨wn20, hw20⟩ : ∃ wn20, Hid (wn19.alloc (.cells #[.int .i64 0, .int .i64 0] 29) = wn20) := ⟨_, rfl⟩
                  have hbp : Below wn19.heap.size wn19 wn20 := by rw [← hw20.out]; exact Below.plus (Below.refl _ wn19) (.cells #[.int .i64 0, .int .i64 0] 29)
                  have b10x20 : Box wn20 wn19.heap.size [.int .i64 0, .int .i64 0] 29 := by rw [← hw20.out]; exact Box.new wn19 [.int .i64 0, .int .i64 0] 29
                  have hg20 : Grew W5 wn20 := grew_step hg19 hbp
                  have ge10 : W5.heap.size ≤ wn19.heap.size := hg19.size
                  have b9x20 := b9x19.below hbp (Nat.le_refl _)
                  have ne910 : wd.heap.size ≠ wn19.heap.size := Nat.ne_of_lt b9x19.lt
                  have p10x20 := apart_hi hY0 (g := wn19.heap.size) (Nat.le_refl _)
                  have hY20 := hY0.below hbp (Nat.le_refl _)
                  rw [hw20.out]
                  refine hK.out _ _ trivial (fun _ => ?_)
                  clear hK K hbp
                  try simp only [Act.put, List.setIfInBounds_toArray, List.set_cons_zero, List.set_cons_succ]
                  have c0 := b9x20.get 0 rfl
                  have f0 := b9x20.free 0
                  have c1 := b9x20.get 1 rfl
                  have f1 := b9x20.free 1
                  have c2 := b9x20.get 2 rfl
                  have f2 := b9x20.free 2
                  refine wpAnyH_ready (rs := [11]) (by kernel_rfl) (by simp) ?_
                  refine AllReadyH.cons (o := _) rfl (fun K hK => ?_) AllReadyH.nil
                  go_simp
                  have ne : wn19.heap.size ≠ wd.heap.size := Ne.symm ne910
                  have r9 := ((b9x20.set 0 (.slice x4 Y.clock.length y4)).set 1 (.slice x5 Y.lives.length y5)).set 2 (.slice x6 Y.tals.length y6)
                  have r10 := ((b10x20.away (g' := wd.heap.size) (i := 0) (v := .slice x4 Y.clock.length y4) ne).away (g' := wd.heap.size) (i := 1) (v := .slice x5 Y.lives.length y5) ne).away (g' := wd.heap.size) (i := 2) (v := .slice x6 Y.tals.length y6) ne
                  have rY := ((hY20.set p9x19 0 (.slice x4 Y.clock.length y4)).set p9x19 1 (.slice x5 Y.lives.length y5)).set p9x19 2 (.slice x6 Y.tals.length y6)
                  have rg := ((hg20.setCell (p := ⟨wd.heap.size, 0, none⟩) ge9 (.slice x4 Y.clock.length y4)).setCell (p := ⟨wd.heap.size, 1, none⟩) ge9 (.slice x5 Y.lives.length y5)).setCell (p := ⟨wd.heap.size, 2, none⟩) ge9 (.slice x6 Y.tals.length y6)
                  refine hK.out _ _ trivial (fun _ => ?_)
                  clear hK K c0 c1 c2 f0 f1 f2
                  try simp only [Act.put, List.setIfInBounds_toArray, List.set_cons_zero, List.set_cons_succ]
                  have c0 := r10.get 0 rfl
                  have f0 := r10.free 0
                  have c1 := r10.get 1 rfl
                  have f1 := r10.free 1
                  refine wpAnyH_ready (rs := [12]) (by kernel_rfl) (by simp) ?_
                  refine AllReadyH.cons (o := _) rfl (fun K hK => ?_) AllReadyH.nil
                  go_simp
                  have s9 := (r9.away (g' := wn19.heap.size) (i := 0) (v := .int .i64 P2) (Ne.symm ne)).away (g' := wn19.heap.size) (i := 1) (v := .int .i64 A2) (Ne.symm ne)
                  have s10 := (r10.set 0 (.int .i64 P2)).set 1 (.int .i64 A2)
                  have sY := (rY.set p10x20 0 (.int .i64 P2)).set p10x20 1 (.int .i64 A2)
                  have sg := (rg.setCell (p := ⟨wn19.heap.size, 0, none⟩) ge10 (.int .i64 P2)).setCell (p := ⟨wn19.heap.size, 1, none⟩) ge10 (.int .i64 A2)
                  refine hK.out _ _ trivial (fun _ => ?_)
                  clear hK K c0 c1 f0 f1
                  try simp only [Act.put, List.setIfInBounds_toArray, List.set_cons_zero, List.set_cons_succ]
                  refine wpAnyH_done (by kernel_rfl) ?_ _
                  go_wp2_with fail
                  go_meet
                  exact ⟨_, _, _, _, _, _, _, _, rfl, rfl, hide s9, hide s10, hide sY.st, hide sg⟩
                · go_simp
                  obtain ⟨wn21, hw21⟩ : ∃ wn21, Hid (wn18.alloc (.cells #[.int .i64 0, .int .i64 0] 29) = wn21) := ⟨_, rfl⟩
                  have hbp : Below wn18.heap.size wn18 wn21 := by rw [← hw21.out]; exact Below.plus (Below.refl _ wn18) (.cells #[.int .i64 0, .int .i64 0] 29)
                  have b10x21 : Box wn21 wn18.heap.size [.int .i64 0, .int .i64 0] 29 := by rw [← hw21.out]; exact Box.new wn18 [.int .i64 0, .int .i64 0] 29
                  have hg21 : Grew W5 wn21 := grew_step hg18 hbp
                  have ge10 : W5.heap.size ≤ wn18.heap.size := hg18.size
                  have b9x21 := b9x18.below hbp (Nat.le_refl _)
                  have ne910 : wd.heap.size ≠ wn18.heap.size := Nat.ne_of_lt b9x18.lt
                  have hS21 := hS.below hbp (Nat.le_refl _)
                  rw [hw21.out]
                  refine hK.out _ _ trivial (fun _ => ?_)
                  clear hK K hbp
                  try simp only [Act.put, List.setIfInBounds_toArray, List.set_cons_zero, List.set_cons_succ]
                  refine wpAnyH_ready (rs := [5]) (by kernel_rfl) (by simp) ?_
                  refine AllReadyH.cons (o := _) rfl (fun K hK => ?_) AllReadyH.nil
                  go_simp
                  refine (play_state _ _ (z0 k) p _ hS21.st (M5.out.below hg21 (Nat.le_refl _))).mono ?_
                  rintro e wn22 ⟨rv, rfl, hY0, hb⟩
                  rw [HP2.out, HA2.out]
                  rw [HY.out] at hY0
                  obtain ⟨x4, y4, x5, y5, x6, y6, hvy⟩ := hY0.formW
                  subst hvy
                  have hg22 : Grew W5 wn22 := grew_step hg21 hb
                  have b9x22 := b9x21.below hb (Nat.le_refl _)
                  have b10x22 := b10x21.below hb (Nat.le_refl _)
                  have p9x22 := apart_lo hY0 (g := wd.heap.size) (by have := b9x21.lt; omega)
                  have p10x22 := apart_lo hY0 (g := wn18.heap.size) (by have := b10x21.lt; omega)
                  refine hK.out _ _ trivial (fun _ => ?_)
                  clear hK K hb
                  try simp only [Act.put, List.setIfInBounds_toArray, List.set_cons_zero, List.set_cons_succ]
                  refine take_yes 6 40 (.tuple #[.agg #[.slice x4 Y.clock.length y4, .slice x5 Y.lives.length y5, .slice x6 Y.tals.length y6], .agg #[.int .i64 P2, .int .i64 A2]]) rfl rfl (by kernel_rfl) (by kernel_rfl) (by kernel_rfl) (fun _ _ _ h => h) rfl (by intro w hSw; (try dsimp only at hSw); go_simp) (by assumption) ?_
                  simp only [Act.put, List.setIfInBounds_toArray, List.set_cons_zero, List.set_cons_succ]
                  refine take_yes 7 47 (.agg #[.slice x4 Y.clock.length y4, .slice x5 Y.lives.length y5, .slice x6 Y.tals.length y6]) rfl rfl (by kernel_rfl) (by kernel_rfl) (by kernel_rfl) (fun _ _ _ h => h) rfl (by intro w hSw; (try dsimp only at hSw); go_simp) (by assumption) ?_
                  simp only [Act.put, List.setIfInBounds_toArray, List.set_cons_zero, List.set_cons_succ]
                  refine take_yes 8 48 (.agg #[.int .i64 P2, .int .i64 A2]) rfl rfl (by kernel_rfl) (by kernel_rfl) (by kernel_rfl) (fun _ _ _ h => h) rfl (by intro w hSw; (try dsimp only at hSw); go_simp) (by assumption) ?_
                  simp only [Act.put, List.setIfInBounds_toArray, List.set_cons_zero, List.set_cons_succ]
                  have c0 := b9x22.get 0 rfl
                  have f0 := b9x22.free 0
                  have c1 := b9x22.get 1 rfl
                  have f1 := b9x22.free 1
                  have c2 := b9x22.get 2 rfl
                  have f2 := b9x22.free 2
                  refine wpAnyH_ready (rs := [11]) (by kernel_rfl) (by simp) ?_
                  refine AllReadyH.cons (o := _) rfl (fun K hK => ?_) AllReadyH.nil
                  go_simp
                  have ne : wn18.heap.size ≠ wd.heap.size := Ne.symm ne910
                  have r9 := ((b9x22.set 0 (.slice x4 Y.clock.length y4)).set 1 (.slice x5 Y.lives.length y5)).set 2 (.slice x6 Y.tals.length y6)
                  have r10 := ((b10x22.away (g' := wd.heap.size) (i := 0) (v := .slice x4 Y.clock.length y4) ne).away (g' := wd.heap.size) (i := 1) (v := .slice x5 Y.lives.length y5) ne).away (g' := wd.heap.size) (i := 2) (v := .slice x6 Y.tals.length y6) ne
                  have rY := ((hY0.set p9x22 0 (.slice x4 Y.clock.length y4)).set p9x22 1 (.slice x5 Y.lives.length y5)).set p9x22 2 (.slice x6 Y.tals.length y6)
                  have rg := ((hg22.setCell (p := ⟨wd.heap.size, 0, none⟩) ge9 (.slice x4 Y.clock.length y4)).setCell (p := ⟨wd.heap.size, 1, none⟩) ge9 (.slice x5 Y.lives.length y5)).setCell (p := ⟨wd.heap.size, 2, none⟩) ge9 (.slice x6 Y.tals.length y6)
                  refine hK.out _ _ trivial (fun _ => ?_)
                  clear hK K c0 c1 c2 f0 f1 f2
                  try simp only [Act.put, List.setIfInBounds_toArray, List.set_cons_zero, List.set_cons_succ]
                  have c0 := r10.get 0 rfl
                  have f0 := r10.free 0
                  have c1 := r10.get 1 rfl
                  have f1 := r10.free 1
                  refine wpAnyH_ready (rs := [12]) (by kernel_rfl) (by simp) ?_
                  refine AllReadyH.cons (o := _) rfl (fun K hK => ?_) AllReadyH.nil
                  go_simp
                  have s9 := (r9.away (g' := wn18.heap.size) (i := 0) (v := .int .i64 P2) (Ne.symm ne)).away (g' := wn18.heap.size) (i := 1) (v := .int .i64 A2) (Ne.symm ne)
                  have s10 := (r10.set 0 (.int .i64 P2)).set 1 (.int .i64 A2)
                  have sY := (rY.set p10x22 0 (.int .i64 P2)).set p10x22 1 (.int .i64 A2)
                  have sg := (rg.setCell (p := ⟨wn18.heap.size, 0, none⟩) ge10 (.int .i64 P2)).setCell (p := ⟨wn18.heap.size, 1, none⟩) ge10 (.int .i64 A2)
                  refine hK.out _ _ trivial (fun _ => ?_)
                  clear hK K c0 c1 f0 f1
                  try simp only [Act.put, List.setIfInBounds_toArray, List.set_cons_zero, List.set_cons_succ]
                  refine wpAnyH_done (by kernel_rfl) ?_ _
                  go_wp2_with fail
                  go_meet
                  exact ⟨_, _, _, _, _, _, _, _, rfl, rfl, hide s9, hide s10, hide sY.st, hide sg⟩
              · go_simp
                obtain ⟨wn23, hw23⟩ : ∃ wn23, Hid (wn17.alloc (.cells #[.int .i64 0, .int .i64 0] 29) = wn23) := ⟨_, rfl⟩
                have hbp : Below wn17.heap.size wn17 wn23 := by rw [← hw23.out]; exact Below.plus (Below.refl _ wn17) (.cells #[.int .i64 0, .int .i64 0] 29)
                have b10x23 : Box wn23 wn17.heap.size [.int .i64 0, .int .i64 0] 29 := by rw [← hw23.out]; exact Box.new wn17 [.int .i64 0, .int .i64 0] 29
                have hg23 : Grew W5 wn23 := grew_step hg17 hbp
                have ge10 : W5.heap.size ≤ wn17.heap.size := hg17.size
                have b9x23 := b9x17.below hbp (Nat.le_refl _)
                have ne910 : wd.heap.size ≠ wn17.heap.size := Nat.ne_of_lt b9x17.lt
                rw [hw23.out]
                refine hK.out _ _ trivial (fun _ => ?_)
                clear hK K hbp
                try simp only [Act.put, List.setIfInBounds_toArray, List.set_cons_zero, List.set_cons_succ]
                refine wpAnyH_ready (rs := [1]) (by kernel_rfl) (by simp) ?_
                refine AllReadyH.cons (o := _) rfl (fun K hK => ?_) AllReadyH.nil
                go_simp
                refine (start_any (k := k) HK6.out _).mono ?_
                rintro e wn24 ⟨vS, rfl, hS, hb⟩
                have hg24 : Grew W5 wn24 := grew_step hg23 hb
                have b9x24 := b9x23.below hb (Nat.le_refl _)
                have b10x24 := b10x23.below hb (Nat.le_refl _)
                refine hK.out _ _ trivial (fun _ => ?_)
                clear hK K hb
                try simp only [Act.put, List.setIfInBounds_toArray, List.set_cons_zero, List.set_cons_succ]
                refine wpAnyH_ready (rs := [5]) (by kernel_rfl) (by simp) ?_
                refine AllReadyH.cons (o := _) rfl (fun K hK => ?_) AllReadyH.nil
                go_simp
                refine (play_state _ _ (z0 k) p _ hS.st (M5.out.below hg24 (Nat.le_refl _))).mono ?_
                rintro e wn25 ⟨rv, rfl, hY0, hb⟩
                rw [HP2.out, HA2.out]
                rw [HY.out] at hY0
                obtain ⟨x4, y4, x5, y5, x6, y6, hvy⟩ := hY0.formW
                subst hvy
                have hg25 : Grew W5 wn25 := grew_step hg24 hb
                have b9x25 := b9x24.below hb (Nat.le_refl _)
                have b10x25 := b10x24.below hb (Nat.le_refl _)
                have p9x25 := apart_lo hY0 (g := wd.heap.size) (by have := b9x24.lt; omega)
                have p10x25 := apart_lo hY0 (g := wn17.heap.size) (by have := b10x24.lt; omega)
                refine hK.out _ _ trivial (fun _ => ?_)
                clear hK K hb
                try simp only [Act.put, List.setIfInBounds_toArray, List.set_cons_zero, List.set_cons_succ]
                refine take_yes 6 40 (.tuple #[.agg #[.slice x4 Y.clock.length y4, .slice x5 Y.lives.length y5, .slice x6 Y.tals.length y6], .agg #[.int .i64 P2, .int .i64 A2]]) rfl rfl (by kernel_rfl) (by kernel_rfl) (by kernel_rfl) (fun _ _ _ h => h) rfl (by intro w hSw; (try dsimp only at hSw); go_simp) (by assumption) ?_
                simp only [Act.put, List.setIfInBounds_toArray, List.set_cons_zero, List.set_cons_succ]
                refine take_yes 7 47 (.agg #[.slice x4 Y.clock.length y4, .slice x5 Y.lives.length y5, .slice x6 Y.tals.length y6]) rfl rfl (by kernel_rfl) (by kernel_rfl) (by kernel_rfl) (fun _ _ _ h => h) rfl (by intro w hSw; (try dsimp only at hSw); go_simp) (by assumption) ?_
                simp only [Act.put, List.setIfInBounds_toArray, List.set_cons_zero, List.set_cons_succ]
                refine take_yes 8 48 (.agg #[.int .i64 P2, .int .i64 A2]) rfl rfl (by kernel_rfl) (by kernel_rfl) (by kernel_rfl) (fun _ _ _ h => h) rfl (by intro w hSw; (try dsimp only at hSw); go_simp) (by assumption) ?_
                simp only [Act.put, List.setIfInBounds_toArray, List.set_cons_zero, List.set_cons_succ]
                have c0 := b9x25.get 0 rfl
                have f0 := b9x25.free 0
                have c1 := b9x25.get 1 rfl
                have f1 := b9x25.free 1
                have c2 := b9x25.get 2 rfl
                have f2 := b9x25.free 2
                refine wpAnyH_ready (rs := [11]) (by kernel_rfl) (by simp) ?_
                refine AllReadyH.cons (o := _) rfl (fun K hK => ?_) AllReadyH.nil
                go_simp
                have ne : wn17.heap.size ≠ wd.heap.size := Ne.symm ne910
                have r9 := ((b9x25.set 0 (.slice x4 Y.clock.length y4)).set 1 (.slice x5 Y.lives.length y5)).set 2 (.slice x6 Y.tals.length y6)
                have r10 := ((b10x25.away (g' := wd.heap.size) (i := 0) (v := .slice x4 Y.clock.length y4) ne).away (g' := wd.heap.size) (i := 1) (v := .slice x5 Y.lives.length y5) ne).away (g' := wd.heap.size) (i := 2) (v := .slice x6 Y.tals.length y6) ne
                have rY := ((hY0.set p9x25 0 (.slice x4 Y.clock.length y4)).set p9x25 1 (.slice x5 Y.lives.length y5)).set p9x25 2 (.slice x6 Y.tals.length y6)
                have rg := ((hg25.setCell (p := ⟨wd.heap.size, 0, none⟩) ge9 (.slice x4 Y.clock.length y4)).setCell (p := ⟨wd.heap.size, 1, none⟩) ge9 (.slice x5 Y.lives.length y5)).setCell (p := ⟨wd.heap.size, 2, none⟩) ge9 (.slice x6 Y.tals.length y6)
                refine hK.out _ _ trivial (fun _ => ?_)
                clear hK K c0 c1 c2 f0 f1 f2
                try simp only [Act.put, List.setIfInBounds_toArray, List.set_cons_zero, List.set_cons_succ]
                have c0 := r10.get 0 rfl
                have f0 := r10.free 0
                have c1 := r10.get 1 rfl
                have f1 := r10.free 1
                refine wpAnyH_ready (rs := [12]) (by kernel_rfl) (by simp) ?_
                refine AllReadyH.cons (o := _) rfl (fun K hK => ?_) AllReadyH.nil
                go_simp
                have s9 := (r9.away (g' := wn17.heap.size) (i := 0) (v := .int .i64 P2) (Ne.symm ne)).away (g' := wn17.heap.size) (i := 1) (v := .int .i64 A2) (Ne.symm ne)
                have s10 := (r10.set 0 (.int .i64 P2)).set 1 (.int .i64 A2)
                have sY := (rY.set p10x25 0 (.int .i64 P2)).set p10x25 1 (.int .i64 A2)
                have sg := (rg.setCell (p := ⟨wn17.heap.size, 0, none⟩) ge10 (.int .i64 P2)).setCell (p := ⟨wn17.heap.size, 1, none⟩) ge10 (.int .i64 A2)
                refine hK.out _ _ trivial (fun _ => ?_)
                clear hK K c0 c1 f0 f1
                try simp only [Act.put, List.setIfInBounds_toArray, List.set_cons_zero, List.set_cons_succ]
                refine wpAnyH_done (by kernel_rfl) ?_ _
                go_wp2_with fail
                go_meet
                exact ⟨_, _, _, _, _, _, _, _, rfl, rfl, hide s9, hide s10, hide sY.st, hide sg⟩
            · go_simp
              obtain ⟨wn26, hw26⟩ : ∃ wn26, Hid (wd.alloc (.cells #[.int .i64 0, .int .i64 0] 29) = wn26) := ⟨_, rfl⟩
              have hbp : Below wd.heap.size wd wn26 := by rw [← hw26.out]; exact Below.plus (Below.refl _ wd) (.cells #[.int .i64 0, .int .i64 0] 29)
              have b10x26 : Box wn26 wd.heap.size [.int .i64 0, .int .i64 0] 29 := by rw [← hw26.out]; exact Box.new wd [.int .i64 0, .int .i64 0] 29
              have hg26 : Grew W5 wn26 := grew_step hg0 hbp
              have ge10 : W5.heap.size ≤ wd.heap.size := hg0.size
              rw [hw26.out]
              refine hK.out _ _ trivial (fun _ => ?_)
              clear hK K hbp
              try simp only [Act.put, List.setIfInBounds_toArray, List.set_cons_zero, List.set_cons_succ]
              refine wpAnyH_ready (rs := [1, 9]) (by kernel_rfl) (by simp) ?_
              refine AllReadyH.cons (o := _) rfl (fun K hK => ?_) (AllReadyH.cons (o := _) rfl (fun K hK => ?_) AllReadyH.nil)
              · go_simp
                refine (start_any (k := k) HK6.out _).mono ?_
                rintro e wn27 ⟨vS, rfl, hS, hb⟩
                have hg27 : Grew W5 wn27 := grew_step hg26 hb
                have b10x27 := b10x26.below hb (Nat.le_refl _)
                refine hK.out _ _ trivial (fun _ => ?_)
                clear hK K hb
                try simp only [Act.put, List.setIfInBounds_toArray, List.set_cons_zero, List.set_cons_succ]
                refine wpAnyH_ready (rs := [5, 9]) (by kernel_rfl) (by simp) ?_
                refine AllReadyH.cons (o := _) rfl (fun K hK => ?_) (AllReadyH.cons (o := _) rfl (fun K hK => ?_) AllReadyH.nil)
                · go_simp
                  refine (play_state _ _ (z0 k) p _ hS.st (M5.out.below hg27 (Nat.le_refl _))).mono ?_
                  rintro e wn28 ⟨rv, rfl, hY0, hb⟩
                  rw [HP2.out, HA2.out]
                  rw [HY.out] at hY0
                  obtain ⟨x4, y4, x5, y5, x6, y6, hvy⟩ := hY0.formW
                  subst hvy
                  have hg28 : Grew W5 wn28 := grew_step hg27 hb
                  have b10x28 := b10x27.below hb (Nat.le_refl _)
                  have p10x28 := apart_lo hY0 (g := wd.heap.size) (by have := b10x27.lt; omega)
                  refine hK.out _ _ trivial (fun _ => ?_)
                  clear hK K hb
                  try simp only [Act.put, List.setIfInBounds_toArray, List.set_cons_zero, List.set_cons_succ]
                  refine take_yes 6 40 (.tuple #[.agg #[.slice x4 Y.clock.length y4, .slice x5 Y.lives.length y5, .slice x6 Y.tals.length y6], .agg #[.int .i64 P2, .int .i64 A2]]) rfl rfl (by kernel_rfl) (by kernel_rfl) (by kernel_rfl) (fun _ _ _ h => h) rfl (by intro w hSw; (try dsimp only at hSw); go_simp) (by assumption) ?_
                  simp only [Act.put, List.setIfInBounds_toArray, List.set_cons_zero, List.set_cons_succ]
                  refine take_yes 7 47 (.agg #[.slice x4 Y.clock.length y4, .slice x5 Y.lives.length y5, .slice x6 Y.tals.length y6]) rfl rfl (by kernel_rfl) (by kernel_rfl) (by kernel_rfl) (fun _ _ _ h => h) rfl (by intro w hSw; (try dsimp only at hSw); go_simp) (by assumption) ?_
                  simp only [Act.put, List.setIfInBounds_toArray, List.set_cons_zero, List.set_cons_succ]
                  refine take_yes 8 48 (.agg #[.int .i64 P2, .int .i64 A2]) rfl rfl (by kernel_rfl) (by kernel_rfl) (by kernel_rfl) (fun _ _ _ h => h) rfl (by intro w hSw; (try dsimp only at hSw); go_simp) (by assumption) ?_
                  simp only [Act.put, List.setIfInBounds_toArray, List.set_cons_zero, List.set_cons_succ]
                  refine wpAnyH_ready (rs := [9]) (by kernel_rfl) (by simp) ?_
                  refine AllReadyH.cons (o := _) rfl (fun K hK => ?_) AllReadyH.nil
                  go_simp
                  obtain ⟨wn29, hw29⟩ : ∃ wn29, Hid (wn28.alloc (.cells #[.slice none 0 0, .slice none 0 0, .slice none 0 0] 35) = wn29) := ⟨_, rfl⟩
                  have hbp : Below wn28.heap.size wn28 wn29 := by rw [← hw29.out]; exact Below.plus (Below.refl _ wn28) (.cells #[.slice none 0 0, .slice none 0 0, .slice none 0 0] 35)
                  have b9x29 : Box wn29 wn28.heap.size [.slice none 0 0, .slice none 0 0, .slice none 0 0] 35 := by rw [← hw29.out]; exact Box.new wn28 [.slice none 0 0, .slice none 0 0, .slice none 0 0] 35
                  have hg29 : Grew W5 wn29 := grew_step hg28 hbp
                  have ge9 : W5.heap.size ≤ wn28.heap.size := hg28.size
                  have b10x29 := b10x28.below hbp (Nat.le_refl _)
                  have ne109 : wd.heap.size ≠ wn28.heap.size := Nat.ne_of_lt b10x28.lt
                  have p9x29 := apart_hi hY0 (g := wn28.heap.size) (Nat.le_refl _)
                  have hY29 := hY0.below hbp (Nat.le_refl _)
                  rw [hw29.out]
                  refine hK.out _ _ trivial (fun _ => ?_)
                  clear hK K hbp
                  try simp only [Act.put, List.setIfInBounds_toArray, List.set_cons_zero, List.set_cons_succ]
                  have c0 := b9x29.get 0 rfl
                  have f0 := b9x29.free 0
                  have c1 := b9x29.get 1 rfl
                  have f1 := b9x29.free 1
                  have c2 := b9x29.get 2 rfl
                  have f2 := b9x29.free 2
                  refine wpAnyH_ready (rs := [11]) (by kernel_rfl) (by simp) ?_
                  refine AllReadyH.cons (o := _) rfl (fun K hK => ?_) AllReadyH.nil
                  go_simp
                  have ne : wd.heap.size ≠ wn28.heap.size := ne109
                  have r9 := ((b9x29.set 0 (.slice x4 Y.clock.length y4)).set 1 (.slice x5 Y.lives.length y5)).set 2 (.slice x6 Y.tals.length y6)
                  have r10 := ((b10x29.away (g' := wn28.heap.size) (i := 0) (v := .slice x4 Y.clock.length y4) ne).away (g' := wn28.heap.size) (i := 1) (v := .slice x5 Y.lives.length y5) ne).away (g' := wn28.heap.size) (i := 2) (v := .slice x6 Y.tals.length y6) ne
                  have rY := ((hY29.set p9x29 0 (.slice x4 Y.clock.length y4)).set p9x29 1 (.slice x5 Y.lives.length y5)).set p9x29 2 (.slice x6 Y.tals.length y6)
                  have rg := ((hg29.setCell (p := ⟨wn28.heap.size, 0, none⟩) ge9 (.slice x4 Y.clock.length y4)).setCell (p := ⟨wn28.heap.size, 1, none⟩) ge9 (.slice x5 Y.lives.length y5)).setCell (p := ⟨wn28.heap.size, 2, none⟩) ge9 (.slice x6 Y.tals.length y6)
                  refine hK.out _ _ trivial (fun _ => ?_)
                  clear hK K c0 c1 c2 f0 f1 f2
                  try simp only [Act.put, List.setIfInBounds_toArray, List.set_cons_zero, List.set_cons_succ]
                  have c0 := r10.get 0 rfl
                  have f0 := r10.free 0
                  have c1 := r10.get 1 rfl
                  have f1 := r10.free 1
                  refine wpAnyH_ready (rs := [12]) (by kernel_rfl) (by simp) ?_
                  refine AllReadyH.cons (o := _) rfl (fun K hK => ?_) AllReadyH.nil
                  go_simp
                  have s9 := (r9.away (g' := wd.heap.size) (i := 0) (v := .int .i64 P2) (Ne.symm ne)).away (g' := wd.heap.size) (i := 1) (v := .int .i64 A2) (Ne.symm ne)
                  have s10 := (r10.set 0 (.int .i64 P2)).set 1 (.int .i64 A2)
                  have sY := (rY.set p10x28 0 (.int .i64 P2)).set p10x28 1 (.int .i64 A2)
                  have sg := (rg.setCell (p := ⟨wd.heap.size, 0, none⟩) ge10 (.int .i64 P2)).setCell (p := ⟨wd.heap.size, 1, none⟩) ge10 (.int .i64 A2)
                  refine hK.out _ _ trivial (fun _ => ?_)
                  clear hK K c0 c1 f0 f1
                  try simp only [Act.put, List.setIfInBounds_toArray, List.set_cons_zero, List.set_cons_succ]
                  refine wpAnyH_done (by kernel_rfl) ?_ _
                  go_wp2_with fail
                  go_meet
                  exact ⟨_, _, _, _, _, _, _, _, rfl, rfl, hide s9, hide s10, hide sY.st, hide sg⟩
                · go_simp
                  obtain ⟨wn30, hw30⟩ : ∃ wn30, Hid (wn27.alloc (.cells #[.slice none 0 0, .slice none 0 0, .slice none 0 0] 35) = wn30) := ⟨_, rfl⟩
                  have hbp : Below wn27.heap.size wn27 wn30 := by rw [← hw30.out]; exact Below.plus (Below.refl _ wn27) (.cells #[.slice none 0 0, .slice none 0 0, .slice none 0 0] 35)
                  have b9x30 : Box wn30 wn27.heap.size [.slice none 0 0, .slice none 0 0, .slice none 0 0] 35 := by rw [← hw30.out]; exact Box.new wn27 [.slice none 0 0, .slice none 0 0, .slice none 0 0] 35
                  have hg30 : Grew W5 wn30 := grew_step hg27 hbp
                  have ge9 : W5.heap.size ≤ wn27.heap.size := hg27.size
                  have b10x30 := b10x27.below hbp (Nat.le_refl _)
                  have ne109 : wd.heap.size ≠ wn27.heap.size := Nat.ne_of_lt b10x27.lt
                  have hS30 := hS.below hbp (Nat.le_refl _)
                  rw [hw30.out]
                  refine hK.out _ _ trivial (fun _ => ?_)
                  clear hK K hbp
                  try simp only [Act.put, List.setIfInBounds_toArray, List.set_cons_zero, List.set_cons_succ]
                  refine wpAnyH_ready (rs := [5]) (by kernel_rfl) (by simp) ?_
                  refine AllReadyH.cons (o := _) rfl (fun K hK => ?_) AllReadyH.nil
                  go_simp
                  refine (play_state _ _ (z0 k) p _ hS30.st (M5.out.below hg30 (Nat.le_refl _))).mono ?_
                  rintro e wn31 ⟨rv, rfl, hY0, hb⟩
                  rw [HP2.out, HA2.out]
                  rw [HY.out] at hY0
                  obtain ⟨x4, y4, x5, y5, x6, y6, hvy⟩ := hY0.formW
                  subst hvy
                  have hg31 : Grew W5 wn31 := grew_step hg30 hb
                  have b10x31 := b10x30.below hb (Nat.le_refl _)
                  have b9x31 := b9x30.below hb (Nat.le_refl _)
                  have p10x31 := apart_lo hY0 (g := wd.heap.size) (by have := b10x30.lt; omega)
                  have p9x31 := apart_lo hY0 (g := wn27.heap.size) (by have := b9x30.lt; omega)
                  refine hK.out _ _ trivial (fun _ => ?_)
                  clear hK K hb
                  try simp only [Act.put, List.setIfInBounds_toArray, List.set_cons_zero, List.set_cons_succ]
                  refine take_yes 6 40 (.tuple #[.agg #[.slice x4 Y.clock.length y4, .slice x5 Y.lives.length y5, .slice x6 Y.tals.length y6], .agg #[.int .i64 P2, .int .i64 A2]]) rfl rfl (by kernel_rfl) (by kernel_rfl) (by kernel_rfl) (fun _ _ _ h => h) rfl (by intro w hSw; (try dsimp only at hSw); go_simp) (by assumption) ?_
                  simp only [Act.put, List.setIfInBounds_toArray, List.set_cons_zero, List.set_cons_succ]
                  refine take_yes 7 47 (.agg #[.slice x4 Y.clock.length y4, .slice x5 Y.lives.length y5, .slice x6 Y.tals.length y6]) rfl rfl (by kernel_rfl) (by kernel_rfl) (by kernel_rfl) (fun _ _ _ h => h) rfl (by intro w hSw; (try dsimp only at hSw); go_simp) (by assumption) ?_
                  simp only [Act.put, List.setIfInBounds_toArray, List.set_cons_zero, List.set_cons_succ]
                  refine take_yes 8 48 (.agg #[.int .i64 P2, .int .i64 A2]) rfl rfl (by kernel_rfl) (by kernel_rfl) (by kernel_rfl) (fun _ _ _ h => h) rfl (by intro w hSw; (try dsimp only at hSw); go_simp) (by assumption) ?_
                  simp only [Act.put, List.setIfInBounds_toArray, List.set_cons_zero, List.set_cons_succ]
                  have c0 := b9x31.get 0 rfl
                  have f0 := b9x31.free 0
                  have c1 := b9x31.get 1 rfl
                  have f1 := b9x31.free 1
                  have c2 := b9x31.get 2 rfl
                  have f2 := b9x31.free 2
                  refine wpAnyH_ready (rs := [11]) (by kernel_rfl) (by simp) ?_
                  refine AllReadyH.cons (o := _) rfl (fun K hK => ?_) AllReadyH.nil
                  go_simp
                  have ne : wd.heap.size ≠ wn27.heap.size := ne109
                  have r9 := ((b9x31.set 0 (.slice x4 Y.clock.length y4)).set 1 (.slice x5 Y.lives.length y5)).set 2 (.slice x6 Y.tals.length y6)
                  have r10 := ((b10x31.away (g' := wn27.heap.size) (i := 0) (v := .slice x4 Y.clock.length y4) ne).away (g' := wn27.heap.size) (i := 1) (v := .slice x5 Y.lives.length y5) ne).away (g' := wn27.heap.size) (i := 2) (v := .slice x6 Y.tals.length y6) ne
                  have rY := ((hY0.set p9x31 0 (.slice x4 Y.clock.length y4)).set p9x31 1 (.slice x5 Y.lives.length y5)).set p9x31 2 (.slice x6 Y.tals.length y6)
                  have rg := ((hg31.setCell (p := ⟨wn27.heap.size, 0, none⟩) ge9 (.slice x4 Y.clock.length y4)).setCell (p := ⟨wn27.heap.size, 1, none⟩) ge9 (.slice x5 Y.lives.length y5)).setCell (p := ⟨wn27.heap.size, 2, none⟩) ge9 (.slice x6 Y.tals.length y6)
                  refine hK.out _ _ trivial (fun _ => ?_)
                  clear hK K c0 c1 c2 f0 f1 f2
                  try simp only [Act.put, List.setIfInBounds_toArray, List.set_cons_zero, List.set_cons_succ]
                  have c0 := r10.get 0 rfl
                  have f0 := r10.free 0
                  have c1 := r10.get 1 rfl
                  have f1 := r10.free 1
                  refine wpAnyH_ready (rs := [12]) (by kernel_rfl) (by simp) ?_
                  refine AllReadyH.cons (o := _) rfl (fun K hK => ?_) AllReadyH.nil
                  go_simp
                  have s9 := (r9.away (g' := wd.heap.size) (i := 0) (v := .int .i64 P2) (Ne.symm ne)).away (g' := wd.heap.size) (i := 1) (v := .int .i64 A2) (Ne.symm ne)
                  have s10 := (r10.set 0 (.int .i64 P2)).set 1 (.int .i64 A2)
                  have sY := (rY.set p10x31 0 (.int .i64 P2)).set p10x31 1 (.int .i64 A2)
                  have sg := (rg.setCell (p := ⟨wd.heap.size, 0, none⟩) ge10 (.int .i64 P2)).setCell (p := ⟨wd.heap.size, 1, none⟩) ge10 (.int .i64 A2)
                  refine hK.out _ _ trivial (fun _ => ?_)
                  clear hK K c0 c1 f0 f1
                  try simp only [Act.put, List.setIfInBounds_toArray, List.set_cons_zero, List.set_cons_succ]
                  refine wpAnyH_done (by kernel_rfl) ?_ _
                  go_wp2_with fail
                  go_meet
                  exact ⟨_, _, _, _, _, _, _, _, rfl, rfl, hide s9, hide s10, hide sY.st, hide sg⟩
              · go_simp
                obtain ⟨wn32, hw32⟩ : ∃ wn32, Hid (wn26.alloc (.cells #[.slice none 0 0, .slice none 0 0, .slice none 0 0] 35) = wn32) := ⟨_, rfl⟩
                have hbp : Below wn26.heap.size wn26 wn32 := by rw [← hw32.out]; exact Below.plus (Below.refl _ wn26) (.cells #[.slice none 0 0, .slice none 0 0, .slice none 0 0] 35)
                have b9x32 : Box wn32 wn26.heap.size [.slice none 0 0, .slice none 0 0, .slice none 0 0] 35 := by rw [← hw32.out]; exact Box.new wn26 [.slice none 0 0, .slice none 0 0, .slice none 0 0] 35
                have hg32 : Grew W5 wn32 := grew_step hg26 hbp
                have ge9 : W5.heap.size ≤ wn26.heap.size := hg26.size
                have b10x32 := b10x26.below hbp (Nat.le_refl _)
                have ne109 : wd.heap.size ≠ wn26.heap.size := Nat.ne_of_lt b10x26.lt
                rw [hw32.out]
                refine hK.out _ _ trivial (fun _ => ?_)
                clear hK K hbp
                try simp only [Act.put, List.setIfInBounds_toArray, List.set_cons_zero, List.set_cons_succ]
                refine wpAnyH_ready (rs := [1]) (by kernel_rfl) (by simp) ?_
                refine AllReadyH.cons (o := _) rfl (fun K hK => ?_) AllReadyH.nil
                go_simp
                refine (start_any (k := k) HK6.out _).mono ?_
                rintro e wn33 ⟨vS, rfl, hS, hb⟩
                have hg33 : Grew W5 wn33 := grew_step hg32 hb
                have b10x33 := b10x32.below hb (Nat.le_refl _)
                have b9x33 := b9x32.below hb (Nat.le_refl _)
                refine hK.out _ _ trivial (fun _ => ?_)
                clear hK K hb
                try simp only [Act.put, List.setIfInBounds_toArray, List.set_cons_zero, List.set_cons_succ]
                refine wpAnyH_ready (rs := [5]) (by kernel_rfl) (by simp) ?_
                refine AllReadyH.cons (o := _) rfl (fun K hK => ?_) AllReadyH.nil
                go_simp
                refine (play_state _ _ (z0 k) p _ hS.st (M5.out.below hg33 (Nat.le_refl _))).mono ?_
                rintro e wn34 ⟨rv, rfl, hY0, hb⟩
                rw [HP2.out, HA2.out]
                rw [HY.out] at hY0
                obtain ⟨x4, y4, x5, y5, x6, y6, hvy⟩ := hY0.formW
                subst hvy
                have hg34 : Grew W5 wn34 := grew_step hg33 hb
                have b10x34 := b10x33.below hb (Nat.le_refl _)
                have b9x34 := b9x33.below hb (Nat.le_refl _)
                have p10x34 := apart_lo hY0 (g := wd.heap.size) (by have := b10x33.lt; omega)
                have p9x34 := apart_lo hY0 (g := wn26.heap.size) (by have := b9x33.lt; omega)
                refine hK.out _ _ trivial (fun _ => ?_)
                clear hK K hb
                try simp only [Act.put, List.setIfInBounds_toArray, List.set_cons_zero, List.set_cons_succ]
                refine take_yes 6 40 (.tuple #[.agg #[.slice x4 Y.clock.length y4, .slice x5 Y.lives.length y5, .slice x6 Y.tals.length y6], .agg #[.int .i64 P2, .int .i64 A2]]) rfl rfl (by kernel_rfl) (by kernel_rfl) (by kernel_rfl) (fun _ _ _ h => h) rfl (by intro w hSw; (try dsimp only at hSw); go_simp) (by assumption) ?_
                simp only [Act.put, List.setIfInBounds_toArray, List.set_cons_zero, List.set_cons_succ]
                refine take_yes 7 47 (.agg #[.slice x4 Y.clock.length y4, .slice x5 Y.lives.length y5, .slice x6 Y.tals.length y6]) rfl rfl (by kernel_rfl) (by kernel_rfl) (by kernel_rfl) (fun _ _ _ h => h) rfl (by intro w hSw; (try dsimp only at hSw); go_simp) (by assumption) ?_
                simp only [Act.put, List.setIfInBounds_toArray, List.set_cons_zero, List.set_cons_succ]
                refine take_yes 8 48 (.agg #[.int .i64 P2, .int .i64 A2]) rfl rfl (by kernel_rfl) (by kernel_rfl) (by kernel_rfl) (fun _ _ _ h => h) rfl (by intro w hSw; (try dsimp only at hSw); go_simp) (by assumption) ?_
                simp only [Act.put, List.setIfInBounds_toArray, List.set_cons_zero, List.set_cons_succ]
                have c0 := b9x34.get 0 rfl
                have f0 := b9x34.free 0
                have c1 := b9x34.get 1 rfl
                have f1 := b9x34.free 1
                have c2 := b9x34.get 2 rfl
                have f2 := b9x34.free 2
                refine wpAnyH_ready (rs := [11]) (by kernel_rfl) (by simp) ?_
                refine AllReadyH.cons (o := _) rfl (fun K hK => ?_) AllReadyH.nil
                go_simp
                have ne : wd.heap.size ≠ wn26.heap.size := ne109
                have r9 := ((b9x34.set 0 (.slice x4 Y.clock.length y4)).set 1 (.slice x5 Y.lives.length y5)).set 2 (.slice x6 Y.tals.length y6)
                have r10 := ((b10x34.away (g' := wn26.heap.size) (i := 0) (v := .slice x4 Y.clock.length y4) ne).away (g' := wn26.heap.size) (i := 1) (v := .slice x5 Y.lives.length y5) ne).away (g' := wn26.heap.size) (i := 2) (v := .slice x6 Y.tals.length y6) ne
                have rY := ((hY0.set p9x34 0 (.slice x4 Y.clock.length y4)).set p9x34 1 (.slice x5 Y.lives.length y5)).set p9x34 2 (.slice x6 Y.tals.length y6)
                have rg := ((hg34.setCell (p := ⟨wn26.heap.size, 0, none⟩) ge9 (.slice x4 Y.clock.length y4)).setCell (p := ⟨wn26.heap.size, 1, none⟩) ge9 (.slice x5 Y.lives.length y5)).setCell (p := ⟨wn26.heap.size, 2, none⟩) ge9 (.slice x6 Y.tals.length y6)
                refine hK.out _ _ trivial (fun _ => ?_)
                clear hK K c0 c1 c2 f0 f1 f2
                try simp only [Act.put, List.setIfInBounds_toArray, List.set_cons_zero, List.set_cons_succ]
                have c0 := r10.get 0 rfl
                have f0 := r10.free 0
                have c1 := r10.get 1 rfl
                have f1 := r10.free 1
                refine wpAnyH_ready (rs := [12]) (by kernel_rfl) (by simp) ?_
                refine AllReadyH.cons (o := _) rfl (fun K hK => ?_) AllReadyH.nil
                go_simp
                have s9 := (r9.away (g' := wd.heap.size) (i := 0) (v := .int .i64 P2) (Ne.symm ne)).away (g' := wd.heap.size) (i := 1) (v := .int .i64 A2) (Ne.symm ne)
                have s10 := (r10.set 0 (.int .i64 P2)).set 1 (.int .i64 A2)
                have sY := (rY.set p10x34 0 (.int .i64 P2)).set p10x34 1 (.int .i64 A2)
                have sg := (rg.setCell (p := ⟨wd.heap.size, 0, none⟩) ge10 (.int .i64 P2)).setCell (p := ⟨wd.heap.size, 1, none⟩) ge10 (.int .i64 A2)
                refine hK.out _ _ trivial (fun _ => ?_)
                clear hK K c0 c1 f0 f1
                try simp only [Act.put, List.setIfInBounds_toArray, List.set_cons_zero, List.set_cons_succ]
                refine wpAnyH_done (by kernel_rfl) ?_ _
                go_wp2_with fail
                go_meet
                exact ⟨_, _, _, _, _, _, _, _, rfl, rfl, hide s9, hide s10, hide sY.st, hide sg⟩
          case rest =>
            obtain ⟨g1, g2, x4, x5, x6, y4, y5, y6, rfl, rfl, B6, D6, Y6, HGR⟩ := hcut
            obtain ⟨w6, rfl⟩ : ∃ w6, w6 = wc := ⟨wc, rfl⟩
            have Q6 := hide (Q5.out.below HGR.out (Nat.le_refl _))
            have G6 := hide (G5.out.below HGR.out (Nat.le_refl _))
            have F6 := hide (F5.out.below HGR.out (Nat.le_refl _))
            have HB6 := hide (below_step HB5.out HGR.out)
            clear Q5 G5 F5 HB5 HGR L5 M5
            have f0 := F6.out.get 0 rfl
            have d0 := D6.out.get 0 rfl
            by_cases hP : P = 0
            · by_cases hP2 : P2 = 0
              · subst hP hP2
                obtain ⟨⟨m1, m2⟩, m3, m4⟩ := more_law HK1.out HK6.out Hp.out.symm HP.out HP2.out
                rw [HX.out, HY.out] at m1 m2 m3 m4
                have HM1 := hide m1
                have HM2 := hide m2
                have HM3 := hide m3
                have HM4 := hide m4
                clear m1 m2 m3 m4
                have cG0 := G6.out.get 0 rfl
                have cG1 := G6.out.get 1 rfl
                have cG2 := G6.out.get 2 rfl
                have cB0 := B6.out.get 0 rfl
                have cB1 := B6.out.get 1 rfl
                have cB2 := B6.out.get 2 rfl
                go_wp2_with fail
                refine (join_state _ _ X Y _ Q6.out.st Y6.out).mono ?_
                rintro e w7 ⟨vN, rfl, hN, hb⟩
                have HB7 := hide (below_step HB6.out hb)
                have Q7 := hide (Q6.out.below hb (Nat.le_refl _))
                have Y7 := hide (Y6.out.below hb (Nat.le_refl _))
                have G7 := hide (G6.out.below hb (Nat.le_refl _))
                have B7 := hide (B6.out.below hb (Nat.le_refl _))
                have N7 := hide hN
                clear HB6 hb Q6 Y6 G6 B6
                rw [HM1.out]
                rw [HM2.out] at N7
                clear cG0 cG1 cG2
                clear cB0 cB1 cB2
                clear f0 d0
                obtain ⟨u1, v1, u2, v2, u3, v3, hvn⟩ := N7.out.formW
                subst hvn
                clear hN
                have HB8 := hide (below_step HB7.out (Below.plus (Below.refl _ w7) (.cells #[.slice u1 X.clock.length v1, .slice u2 X.lives.length v2, .slice u3 X.tals.length v3] 35)))
                have Q8 := hide (Q7.out.below (Below.plus (Below.refl _ w7) (.cells #[.slice u1 X.clock.length v1, .slice u2 X.lives.length v2, .slice u3 X.tals.length v3] 35)) (Nat.le_refl _))
                have Y8 := hide (Y7.out.below (Below.plus (Below.refl _ w7) (.cells #[.slice u1 X.clock.length v1, .slice u2 X.lives.length v2, .slice u3 X.tals.length v3] 35)) (Nat.le_refl _))
                have G8 := hide (G7.out.below (Below.plus (Below.refl _ w7) (.cells #[.slice u1 X.clock.length v1, .slice u2 X.lives.length v2, .slice u3 X.tals.length v3] 35)) (Nat.le_refl _))
                have B8 := hide (B7.out.below (Below.plus (Below.refl _ w7) (.cells #[.slice u1 X.clock.length v1, .slice u2 X.lives.length v2, .slice u3 X.tals.length v3] 35)) (Nat.le_refl _))
                have N8 := hide (N7.out.below (Below.plus (Below.refl _ w7) (.cells #[.slice u1 X.clock.length v1, .slice u2 X.lives.length v2, .slice u3 X.tals.length v3] 35)) (Nat.le_refl _))
                have O8 := hide (Box.new w7 [.slice u1 X.clock.length v1, .slice u2 X.lives.length v2, .slice u3 X.tals.length v3] 35)
                clear HB7 Q7 Y7 G7 B7 N7
                have cG0 := G8.out.get 0 rfl
                have cG1 := G8.out.get 1 rfl
                have cG2 := G8.out.get 2 rfl
                have cB0 := B8.out.get 0 rfl
                have cB1 := B8.out.get 1 rfl
                have cB2 := B8.out.get 2 rfl
                go_wp2_with fail
                refine (join_state _ _ Y X _ Y8.out Q8.out.st).mono ?_
                rintro e w9 ⟨vR, rfl, hR, hb⟩
                have HB9 := hide (below_step HB8.out hb)
                have Q9 := hide (Q8.out.below hb (Nat.le_refl _))
                have Y9 := hide (Y8.out.below hb (Nat.le_refl _))
                have G9 := hide (G8.out.below hb (Nat.le_refl _))
                have B9 := hide (B8.out.below hb (Nat.le_refl _))
                have N9 := hide (N8.out.below hb (Nat.le_refl _))
                have O9 := hide (O8.out.below hb (Nat.le_refl _))
                have R9 := hide hR
                clear HB8 hb Q8 Y8 G8 B8 N8 O8
                rw [HM3.out]
                rw [HM4.out] at R9
                clear cG0 cG1 cG2
                clear cB0 cB1 cB2
                obtain ⟨u4, v4, u5, v5, u6, v6, hvr⟩ := R9.out.formW
                subst hvr
                clear hR
                have HB10 := hide (below_step HB9.out (Below.plus (Below.refl _ w9) (.cells #[.slice u4 X.clock.length v4, .slice u5 X.lives.length v5, .slice u6 X.tals.length v6] 35)))
                have Q10 := hide (Q9.out.below (Below.plus (Below.refl _ w9) (.cells #[.slice u4 X.clock.length v4, .slice u5 X.lives.length v5, .slice u6 X.tals.length v6] 35)) (Nat.le_refl _))
                have Y10 := hide (Y9.out.below (Below.plus (Below.refl _ w9) (.cells #[.slice u4 X.clock.length v4, .slice u5 X.lives.length v5, .slice u6 X.tals.length v6] 35)) (Nat.le_refl _))
                have G10 := hide (G9.out.below (Below.plus (Below.refl _ w9) (.cells #[.slice u4 X.clock.length v4, .slice u5 X.lives.length v5, .slice u6 X.tals.length v6] 35)) (Nat.le_refl _))
                have B10 := hide (B9.out.below (Below.plus (Below.refl _ w9) (.cells #[.slice u4 X.clock.length v4, .slice u5 X.lives.length v5, .slice u6 X.tals.length v6] 35)) (Nat.le_refl _))
                have N10 := hide (N9.out.below (Below.plus (Below.refl _ w9) (.cells #[.slice u4 X.clock.length v4, .slice u5 X.lives.length v5, .slice u6 X.tals.length v6] 35)) (Nat.le_refl _))
                have O10 := hide (O9.out.below (Below.plus (Below.refl _ w9) (.cells #[.slice u4 X.clock.length v4, .slice u5 X.lives.length v5, .slice u6 X.tals.length v6] 35)) (Nat.le_refl _))
                have R10 := hide (R9.out.below (Below.plus (Below.refl _ w9) (.cells #[.slice u4 X.clock.length v4, .slice u5 X.lives.length v5, .slice u6 X.tals.length v6] 35)) (Nat.le_refl _))
                have V10 := hide (Box.new w9 [.slice u4 X.clock.length v4, .slice u5 X.lives.length v5, .slice u6 X.tals.length v6] 35)
                clear HB9 Q9 Y9 G9 B9 N9 O9 R9
                have cG0 := G10.out.get 0 rfl
                have cG1 := G10.out.get 1 rfl
                have cG2 := G10.out.get 2 rfl
                have cO0 := O10.out.get 0 rfl
                have cO1 := O10.out.get 1 rfl
                have cO2 := O10.out.get 2 rfl
                have cV0 := V10.out.get 0 rfl
                have cV1 := V10.out.get 1 rfl
                have cV2 := V10.out.get 2 rfl
                go_wp2_with fail
                refine (same_st _ _ X _ N10.out.st Q10.out.st).mono ?_
                rintro e w11 ⟨rfl, hb⟩
                have HB11 := hide (below_step HB10.out hb)
                have Q11 := hide (Q10.out.below hb (Nat.le_refl _))
                have Y11 := hide (Y10.out.below hb (Nat.le_refl _))
                have G11 := hide (G10.out.below hb (Nat.le_refl _))
                have B11 := hide (B10.out.below hb (Nat.le_refl _))
                have N11 := hide (N10.out.below hb (Nat.le_refl _))
                have O11 := hide (O10.out.below hb (Nat.le_refl _))
                have R11 := hide (R10.out.below hb (Nat.le_refl _))
                have V11 := hide (V10.out.below hb (Nat.le_refl _))
                clear HB10 hb Q10 Y10 G10 B10 N10 O10 R10 V10
                clear cG0 cG1 cG2
                clear cO0 cO1 cO2
                clear cV0 cV1 cV2
                have cG0 := G11.out.get 0 rfl
                have cG1 := G11.out.get 1 rfl
                have cG2 := G11.out.get 2 rfl
                have cV0 := V11.out.get 0 rfl
                have cV1 := V11.out.get 1 rfl
                have cV2 := V11.out.get 2 rfl
                go_wp2_with fail
                refine (same_st _ _ X _ R11.out.st Q11.out.st).mono ?_
                rintro e w12 ⟨rfl, hb⟩
                have HB12 := hide (below_step HB11.out hb)
                have Q12 := hide (Q11.out.below hb (Nat.le_refl _))
                have Y12 := hide (Y11.out.below hb (Nat.le_refl _))
                have G12 := hide (G11.out.below hb (Nat.le_refl _))
                have B12 := hide (B11.out.below hb (Nat.le_refl _))
                have N12 := hide (N11.out.below hb (Nat.le_refl _))
                have O12 := hide (O11.out.below hb (Nat.le_refl _))
                have R12 := hide (R11.out.below hb (Nat.le_refl _))
                have V12 := hide (V11.out.below hb (Nat.le_refl _))
                clear HB11 hb Q11 Y11 G11 B11 N11 O11 R11 V11
                go_wp2_with fail
                go_ret
                exact ⟨rfl, HB12.out⟩
              · have hP' : (P2 != 0) = true := by simp [hP2]
                subst hP
                clear hP2
                go_wp2_with fail
                go_ret
                exact ⟨rfl, HB6.out⟩
            · have hP' : (P != 0) = true := by simp [hP]
              clear hP
              go_wp2_with fail
              go_ret
              exact ⟨rfl, HB6.out⟩
end Go.Proofs.YtkhhifkihpfdhaaGreat
