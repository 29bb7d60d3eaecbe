/- NodeRight, walked: who does a thing stays right. -/
import Derived.Test.YtlhdnpakafcbkaaGreatNdN
import Derived.Test.YtlhdnpakafcbkaaGreatLawNT
namespace Go.Proofs.YtlhdnpakafcbkaaGreat
open Go.RowKit

theorem right_of {d X : NdS} (h : OkN d.st.clock.length X) (h1 : ∀ j, d.st.clock.getD j 0 ≤ X.st.clock.getD j 0) (h2 : ∀ j, d.base.getD j 0 ≤ X.base.getD j 0) : nodeE X = 0 ∧ seesC X.st.clock d.st.clock = true ∧ seesC X.base d.base = true :=
  ⟨nodeE_zero.2 (by rw [h.len]; exact h), seesC_iff.2 h1, seesC_iff.2 h2⟩
theorem issue_rights {d : NdS} {u : Upd} (h : issueE d u = 0) : nodeE (issueX d u) = 0 ∧ seesC (issueX d u).st.clock d.st.clock = true ∧ seesC (issueX d u).base d.base = true := by
  obtain ⟨h1, h2, h3⟩ := issue_right h
  exact right_of h1 h2 fun j => by rw [h3]; exact Int.le_refl _
theorem take_rights {d : NdS} {i : Int} {p : Pcl} (h : takeE d i p = 0) : nodeE (takeX d i p) = 0 ∧ seesC (takeX d i p).st.clock d.st.clock = true ∧ seesC (takeX d i p).base d.base = true := by
  obtain ⟨h1, h2, h3⟩ := (take_zero.1 h).right
  have hX : takeX d i p = selfN (tellN (upsX (tstX d p) p.ups) i p.clock) := by unfold takeX; rw [if_pos h]
  rw [hX]
  exact right_of h1 h2 h3
theorem prune_rights {d : NdS} (h : nodeE d = 0) : nodeE (pruneX d) = 0 ∧ seesC (pruneX d).st.clock d.st.clock = true ∧ seesC (pruneX d).base d.base = true := by
  obtain ⟨h1, h2, h3, -⟩ := prune_right h
  exact right_of h1 (fun j => by rw [h2]; exact Int.le_refl _) h3

set_option maxRecDepth 100000 in
set_option maxHeartbeats 4000000 in
theorem right_law (v uv pv : Value) (d : NdS) (u : Upd) (i : Int) (p : Pcl) (w0 : World) (h : IsNode w0 v d) (hu : IsUpd w0 uv u) (hp : IsPcl w0 pv p) :
    Calls Tryz.prog 4 #[v, uv, .int .i64 i, pv] w0 fun e w' => e = .returned (.bool true) ∧ Below w0.heap.size w0 w' := by
  have hin := h
  have hpin := hp
  have huin := hu
  obtain ⟨da1, dc1, da2, dc2, da3, dc3, da4, dc4, da5, dc5, da6, dc6, rfl, -, hcl, hbs, -, -⟩ := h.form
  obtain ⟨pa1, pc1, pa2, pc2, pa3, pc3, pa4, pc4, pa5, pc5, rfl, -, -, -, -⟩ := hp.form
  obtain ⟨sv, rfl, hs⟩ := hu
  obtain ⟨ua1, uc1, rfl, -, -, -⟩ := id hs
  have hb := Below.plus (Below.plus (Below.plus (Below.refl w0.heap.size w0) (.cells #[.int .i64 d.self, .slice da1 d.st.clock.length dc1, .slice da2 d.st.lives.length dc2, .slice da3 d.st.tals.length dc3, .slice da4 d.base.length dc4, .slice da5 d.log.length dc5, .slice da6 d.known.length dc6] 31)) (.cells #[.int .i64 u.author, .slice ua1 u.seen.length uc1, .int .i64 u.kind, .int .i64 u.key, .int .i64 u.item] 33)) (.cells #[.bool p.whole, .slice pa1 p.st.clock.length pc1, .slice pa2 p.st.lives.length pc2, .slice pa3 p.st.tals.length pc3, .slice pa4 p.ups.length pc4, .slice pa5 p.clock.length pc5] 35)
  have G0 := hide (((Box.new w0 [.int .i64 d.self, .slice da1 d.st.clock.length dc1, .slice da2 d.st.lives.length dc2, .slice da3 d.st.tals.length dc3, .slice da4 d.base.length dc4, .slice da5 d.log.length dc5, .slice da6 d.known.length dc6] 31).plus (.cells #[.int .i64 u.author, .slice ua1 u.seen.length uc1, .int .i64 u.kind, .int .i64 u.key, .int .i64 u.item] 33)).plus (.cells #[.bool p.whole, .slice pa1 p.st.clock.length pc1, .slice pa2 p.st.lives.length pc2, .slice pa3 p.st.tals.length pc3, .slice pa4 p.ups.length pc4, .slice pa5 p.clock.length pc5] 35))
  have J0 := hide ((Box.new (w0.alloc (.cells #[.int .i64 d.self, .slice da1 d.st.clock.length dc1, .slice da2 d.st.lives.length dc2, .slice da3 d.st.tals.length dc3, .slice da4 d.base.length dc4, .slice da5 d.log.length dc5, .slice da6 d.known.length dc6] 31)) [.int .i64 u.author, .slice ua1 u.seen.length uc1, .int .i64 u.kind, .int .i64 u.key, .int .i64 u.item] 33).plus (.cells #[.bool p.whole, .slice pa1 p.st.clock.length pc1, .slice pa2 p.st.lives.length pc2, .slice pa3 p.st.tals.length pc3, .slice pa4 p.ups.length pc4, .slice pa5 p.clock.length pc5] 35))
  have V0 := hide (Box.new ((w0.alloc (.cells #[.int .i64 d.self, .slice da1 d.st.clock.length dc1, .slice da2 d.st.lives.length dc2, .slice da3 d.st.tals.length dc3, .slice da4 d.base.length dc4, .slice da5 d.log.length dc5, .slice da6 d.known.length dc6] 31)).alloc (.cells #[.int .i64 u.author, .slice ua1 u.seen.length uc1, .int .i64 u.kind, .int .i64 u.key, .int .i64 u.item] 33)) [.bool p.whole, .slice pa1 p.st.clock.length pc1, .slice pa2 p.st.lives.length pc2, .slice pa3 p.st.tals.length pc3, .slice pa4 p.ups.length pc4, .slice pa5 p.clock.length pc5] 35)
  simp only [World.size_alloc] at J0 V0
  have D0 := hide (hin.below hb (Nat.le_refl _))
  have U0 := hide (huin.below hb (Nat.le_refl _))
  have P0 := hide (hpin.below hb (Nat.le_refl _))
  have C0 := hide (hcl.below hb (Nat.le_refl _))
  have B0 := hide (hbs.below hb (Nat.le_refl _))
  have HB0 := hide hb
  clear h hp hs hin hpin huin hb hcl hbs
  obtain ⟨E, HE⟩ : ∃ E, Hid (nodeE d = E) := ⟨_, rfl⟩
  by_cases hE : E = 0
  · subst hE
    obtain ⟨E1, HE1⟩ : ∃ E1, Hid (issueE d u = E1) := ⟨_, rfl⟩
    obtain ⟨E2, HE2⟩ : ∃ E2, Hid (takeE d i p = E2) := ⟨_, rfl⟩
    obtain ⟨X1, HX1⟩ : ∃ X1, Hid (issueX d u = X1) := ⟨_, rfl⟩
    obtain ⟨X2, HX2⟩ : ∃ X2, Hid (takeX d i p = X2) := ⟨_, rfl⟩
    obtain ⟨X3, HX3⟩ : ∃ X3, Hid (pruneX d = X3) := ⟨_, rfl⟩
    have F1 : Hid (E1 = 0 → nodeE X1 = 0 ∧ seesC X1.st.clock d.st.clock = true ∧ seesC X1.base d.base = true) := fun h => by rw [← HX1.out]; exact issue_rights (by rw [HE1.out]; exact h)
    have F2 : Hid (E2 = 0 → nodeE X2 = 0 ∧ seesC X2.st.clock d.st.clock = true ∧ seesC X2.base d.base = true) := fun h => by rw [← HX2.out]; exact take_rights (by rw [HE2.out]; exact h)
    have F3 : Hid (nodeE X3 = 0 ∧ seesC X3.st.clock d.st.clock = true ∧ seesC X3.base d.base = true) := by unfold Hid; rw [← HX3.out]; exact prune_rights HE.out
    go_enter Tryz.func4, Tryz.ntmps4
    go_wp2_with fail
    refine (alive6 _).mono ?_
    rintro e w1 ⟨rfl, hb⟩
    have HB1 := hide (below_step HB0.out hb)
    have G1 := hide (G0.out.below hb (Nat.le_refl _))
    have J1 := hide (J0.out.below hb (Nat.le_refl _))
    have V1 := hide (V0.out.below hb (Nat.le_refl _))
    have D1 := hide (D0.out.below hb (Nat.le_refl _))
    have U1 := hide (U0.out.below hb (Nat.le_refl _))
    have P1 := hide (P0.out.below hb (Nat.le_refl _))
    have C1 := hide (C0.out.below hb (Nat.le_refl _))
    have B1 := hide (B0.out.below hb (Nat.le_refl _))
    clear HB0 hb G0 J0 V0 D0 U0 P0 C0 B0
    have cG0 := G1.out.get 0 rfl
    have cG1 := G1.out.get 1 rfl
    have cG2 := G1.out.get 2 rfl
    have cG3 := G1.out.get 3 rfl
    have cG4 := G1.out.get 4 rfl
    have cG5 := G1.out.get 5 rfl
    have cG6 := G1.out.get 6 rfl
    go_wp2_with fail
    refine (wrong_node _ d _ D1.out).mono ?_
    rintro e w2 ⟨rfl, hb⟩
    have HB2 := hide (below_step HB1.out hb)
    have G2 := hide (G1.out.below hb (Nat.le_refl _))
    have J2 := hide (J1.out.below hb (Nat.le_refl _))
    have V2 := hide (V1.out.below hb (Nat.le_refl _))
    have D2 := hide (D1.out.below hb (Nat.le_refl _))
    have U2 := hide (U1.out.below hb (Nat.le_refl _))
    have P2 := hide (P1.out.below hb (Nat.le_refl _))
    have C2 := hide (C1.out.below hb (Nat.le_refl _))
    have B2 := hide (B1.out.below hb (Nat.le_refl _))
    clear HB1 hb G1 J1 V1 D1 U1 P1 C1 B1
    rw [HE.out]
    clear cG0 cG1 cG2 cG3 cG4 cG5 cG6
    have cG0 := G2.out.get 0 rfl
    have cG1 := G2.out.get 1 rfl
    have cG2 := G2.out.get 2 rfl
    have cG3 := G2.out.get 3 rfl
    have cG4 := G2.out.get 4 rfl
    have cG5 := G2.out.get 5 rfl
    have cG6 := G2.out.get 6 rfl
    have cJ0 := J2.out.get 0 rfl
    have cJ1 := J2.out.get 1 rfl
    have cJ2 := J2.out.get 2 rfl
    have cJ3 := J2.out.get 3 rfl
    have cJ4 := J2.out.get 4 rfl
    go_wp2_with fail
    refine (issue_node _ _ d u _ D2.out U2.out).mono ?_
    rintro e w3 ⟨vX, rfl, hX, hb⟩
    have HB3 := hide (below_step HB2.out hb)
    have G3 := hide (G2.out.below hb (Nat.le_refl _))
    have J3 := hide (J2.out.below hb (Nat.le_refl _))
    have V3 := hide (V2.out.below hb (Nat.le_refl _))
    have D3 := hide (D2.out.below hb (Nat.le_refl _))
    have U3 := hide (U2.out.below hb (Nat.le_refl _))
    have P3 := hide (P2.out.below hb (Nat.le_refl _))
    have C3 := hide (C2.out.below hb (Nat.le_refl _))
    have B3 := hide (B2.out.below hb (Nat.le_refl _))
    have X3 := hide hX
    clear HB2 hb G2 J2 V2 D2 U2 P2 C2 B2
    rw [HE1.out]
    rw [HX1.out] at X3
    clear cG0 cG1 cG2 cG3 cG4 cG5 cG6
    clear cJ0 cJ1 cJ2 cJ3 cJ4
    obtain ⟨xa1, xc1, xa2, xc2, xa3, xc3, xa4, xc4, xa5, xc5, xa6, xc6, hvx⟩ := X3.out.form
    subst hvx
    clear hX
    have HB4 := hide (below_step HB3.out (Below.plus (Below.refl _ w3) (.cells #[.int .i64 X1.self, .slice xa1 X1.st.clock.length xc1, .slice xa2 X1.st.lives.length xc2, .slice xa3 X1.st.tals.length xc3, .slice xa4 X1.base.length xc4, .slice xa5 X1.log.length xc5, .slice xa6 X1.known.length xc6] 31)))
    have G4 := hide (G3.out.below (Below.plus (Below.refl _ w3) (.cells #[.int .i64 X1.self, .slice xa1 X1.st.clock.length xc1, .slice xa2 X1.st.lives.length xc2, .slice xa3 X1.st.tals.length xc3, .slice xa4 X1.base.length xc4, .slice xa5 X1.log.length xc5, .slice xa6 X1.known.length xc6] 31)) (Nat.le_refl _))
    have J4 := hide (J3.out.below (Below.plus (Below.refl _ w3) (.cells #[.int .i64 X1.self, .slice xa1 X1.st.clock.length xc1, .slice xa2 X1.st.lives.length xc2, .slice xa3 X1.st.tals.length xc3, .slice xa4 X1.base.length xc4, .slice xa5 X1.log.length xc5, .slice xa6 X1.known.length xc6] 31)) (Nat.le_refl _))
    have V4 := hide (V3.out.below (Below.plus (Below.refl _ w3) (.cells #[.int .i64 X1.self, .slice xa1 X1.st.clock.length xc1, .slice xa2 X1.st.lives.length xc2, .slice xa3 X1.st.tals.length xc3, .slice xa4 X1.base.length xc4, .slice xa5 X1.log.length xc5, .slice xa6 X1.known.length xc6] 31)) (Nat.le_refl _))
    have D4 := hide (D3.out.below (Below.plus (Below.refl _ w3) (.cells #[.int .i64 X1.self, .slice xa1 X1.st.clock.length xc1, .slice xa2 X1.st.lives.length xc2, .slice xa3 X1.st.tals.length xc3, .slice xa4 X1.base.length xc4, .slice xa5 X1.log.length xc5, .slice xa6 X1.known.length xc6] 31)) (Nat.le_refl _))
    have U4 := hide (U3.out.below (Below.plus (Below.refl _ w3) (.cells #[.int .i64 X1.self, .slice xa1 X1.st.clock.length xc1, .slice xa2 X1.st.lives.length xc2, .slice xa3 X1.st.tals.length xc3, .slice xa4 X1.base.length xc4, .slice xa5 X1.log.length xc5, .slice xa6 X1.known.length xc6] 31)) (Nat.le_refl _))
    have P4 := hide (P3.out.below (Below.plus (Below.refl _ w3) (.cells #[.int .i64 X1.self, .slice xa1 X1.st.clock.length xc1, .slice xa2 X1.st.lives.length xc2, .slice xa3 X1.st.tals.length xc3, .slice xa4 X1.base.length xc4, .slice xa5 X1.log.length xc5, .slice xa6 X1.known.length xc6] 31)) (Nat.le_refl _))
    have C4 := hide (C3.out.below (Below.plus (Below.refl _ w3) (.cells #[.int .i64 X1.self, .slice xa1 X1.st.clock.length xc1, .slice xa2 X1.st.lives.length xc2, .slice xa3 X1.st.tals.length xc3, .slice xa4 X1.base.length xc4, .slice xa5 X1.log.length xc5, .slice xa6 X1.known.length xc6] 31)) (Nat.le_refl _))
    have B4 := hide (B3.out.below (Below.plus (Below.refl _ w3) (.cells #[.int .i64 X1.self, .slice xa1 X1.st.clock.length xc1, .slice xa2 X1.st.lives.length xc2, .slice xa3 X1.st.tals.length xc3, .slice xa4 X1.base.length xc4, .slice xa5 X1.log.length xc5, .slice xa6 X1.known.length xc6] 31)) (Nat.le_refl _))
    have X4 := hide (X3.out.below (Below.plus (Below.refl _ w3) (.cells #[.int .i64 X1.self, .slice xa1 X1.st.clock.length xc1, .slice xa2 X1.st.lives.length xc2, .slice xa3 X1.st.tals.length xc3, .slice xa4 X1.base.length xc4, .slice xa5 X1.log.length xc5, .slice xa6 X1.known.length xc6] 31)) (Nat.le_refl _))
    have Q4 := hide (Box.new w3 [.int .i64 X1.self, .slice xa1 X1.st.clock.length xc1, .slice xa2 X1.st.lives.length xc2, .slice xa3 X1.st.tals.length xc3, .slice xa4 X1.base.length xc4, .slice xa5 X1.log.length xc5, .slice xa6 X1.known.length xc6] 31)
    clear HB3 G3 J3 V3 D3 U3 P3 C3 B3 X3
    have cG0 := G4.out.get 0 rfl
    have cG1 := G4.out.get 1 rfl
    have cG2 := G4.out.get 2 rfl
    have cG3 := G4.out.get 3 rfl
    have cG4 := G4.out.get 4 rfl
    have cG5 := G4.out.get 5 rfl
    have cG6 := G4.out.get 6 rfl
    have cV0 := V4.out.get 0 rfl
    have cV1 := V4.out.get 1 rfl
    have cV2 := V4.out.get 2 rfl
    have cV3 := V4.out.get 3 rfl
    have cV4 := V4.out.get 4 rfl
    have cV5 := V4.out.get 5 rfl
    go_wp2_with fail
    refine (take_node _ _ d i p _ D4.out P4.out).mono ?_
    rintro e w5 ⟨vY, rfl, hY, hb⟩
    have HB5 := hide (below_step HB4.out hb)
    have G5 := hide (G4.out.below hb (Nat.le_refl _))
    have J5 := hide (J4.out.below hb (Nat.le_refl _))
    have V5 := hide (V4.out.below hb (Nat.le_refl _))
    have D5 := hide (D4.out.below hb (Nat.le_refl _))
    have U5 := hide (U4.out.below hb (Nat.le_refl _))
    have P5 := hide (P4.out.below hb (Nat.le_refl _))
    have C5 := hide (C4.out.below hb (Nat.le_refl _))
    have B5 := hide (B4.out.below hb (Nat.le_refl _))
    have X5 := hide (X4.out.below hb (Nat.le_refl _))
    have Q5 := hide (Q4.out.below hb (Nat.le_refl _))
    have Y5 := hide hY
    clear HB4 hb G4 J4 V4 D4 U4 P4 C4 B4 X4 Q4
    rw [HE2.out]
    rw [HX2.out] at Y5
    clear cG0 cG1 cG2 cG3 cG4 cG5 cG6
    clear cV0 cV1 cV2 cV3 cV4 cV5
    obtain ⟨ya1, yc1, ya2, yc2, ya3, yc3, ya4, yc4, ya5, yc5, ya6, yc6, hvy⟩ := Y5.out.form
    subst hvy
    clear hY
    have HB6 := hide (below_step HB5.out (Below.plus (Below.refl _ w5) (.cells #[.int .i64 X2.self, .slice ya1 X2.st.clock.length yc1, .slice ya2 X2.st.lives.length yc2, .slice ya3 X2.st.tals.length yc3, .slice ya4 X2.base.length yc4, .slice ya5 X2.log.length yc5, .slice ya6 X2.known.length yc6] 31)))
    have G6 := hide (G5.out.below (Below.plus (Below.refl _ w5) (.cells #[.int .i64 X2.self, .slice ya1 X2.st.clock.length yc1, .slice ya2 X2.st.lives.length yc2, .slice ya3 X2.st.tals.length yc3, .slice ya4 X2.base.length yc4, .slice ya5 X2.log.length yc5, .slice ya6 X2.known.length yc6] 31)) (Nat.le_refl _))
    have J6 := hide (J5.out.below (Below.plus (Below.refl _ w5) (.cells #[.int .i64 X2.self, .slice ya1 X2.st.clock.length yc1, .slice ya2 X2.st.lives.length yc2, .slice ya3 X2.st.tals.length yc3, .slice ya4 X2.base.length yc4, .slice ya5 X2.log.length yc5, .slice ya6 X2.known.length yc6] 31)) (Nat.le_refl _))
    have V6 := hide (V5.out.below (Below.plus (Below.refl _ w5) (.cells #[.int .i64 X2.self, .slice ya1 X2.st.clock.length yc1, .slice ya2 X2.st.lives.length yc2, .slice ya3 X2.st.tals.length yc3, .slice ya4 X2.base.length yc4, .slice ya5 X2.log.length yc5, .slice ya6 X2.known.length yc6] 31)) (Nat.le_refl _))
    have D6 := hide (D5.out.below (Below.plus (Below.refl _ w5) (.cells #[.int .i64 X2.self, .slice ya1 X2.st.clock.length yc1, .slice ya2 X2.st.lives.length yc2, .slice ya3 X2.st.tals.length yc3, .slice ya4 X2.base.length yc4, .slice ya5 X2.log.length yc5, .slice ya6 X2.known.length yc6] 31)) (Nat.le_refl _))
    have U6 := hide (U5.out.below (Below.plus (Below.refl _ w5) (.cells #[.int .i64 X2.self, .slice ya1 X2.st.clock.length yc1, .slice ya2 X2.st.lives.length yc2, .slice ya3 X2.st.tals.length yc3, .slice ya4 X2.base.length yc4, .slice ya5 X2.log.length yc5, .slice ya6 X2.known.length yc6] 31)) (Nat.le_refl _))
    have P6 := hide (P5.out.below (Below.plus (Below.refl _ w5) (.cells #[.int .i64 X2.self, .slice ya1 X2.st.clock.length yc1, .slice ya2 X2.st.lives.length yc2, .slice ya3 X2.st.tals.length yc3, .slice ya4 X2.base.length yc4, .slice ya5 X2.log.length yc5, .slice ya6 X2.known.length yc6] 31)) (Nat.le_refl _))
    have C6 := hide (C5.out.below (Below.plus (Below.refl _ w5) (.cells #[.int .i64 X2.self, .slice ya1 X2.st.clock.length yc1, .slice ya2 X2.st.lives.length yc2, .slice ya3 X2.st.tals.length yc3, .slice ya4 X2.base.length yc4, .slice ya5 X2.log.length yc5, .slice ya6 X2.known.length yc6] 31)) (Nat.le_refl _))
    have B6 := hide (B5.out.below (Below.plus (Below.refl _ w5) (.cells #[.int .i64 X2.self, .slice ya1 X2.st.clock.length yc1, .slice ya2 X2.st.lives.length yc2, .slice ya3 X2.st.tals.length yc3, .slice ya4 X2.base.length yc4, .slice ya5 X2.log.length yc5, .slice ya6 X2.known.length yc6] 31)) (Nat.le_refl _))
    have X6 := hide (X5.out.below (Below.plus (Below.refl _ w5) (.cells #[.int .i64 X2.self, .slice ya1 X2.st.clock.length yc1, .slice ya2 X2.st.lives.length yc2, .slice ya3 X2.st.tals.length yc3, .slice ya4 X2.base.length yc4, .slice ya5 X2.log.length yc5, .slice ya6 X2.known.length yc6] 31)) (Nat.le_refl _))
    have Q6 := hide (Q5.out.below (Below.plus (Below.refl _ w5) (.cells #[.int .i64 X2.self, .slice ya1 X2.st.clock.length yc1, .slice ya2 X2.st.lives.length yc2, .slice ya3 X2.st.tals.length yc3, .slice ya4 X2.base.length yc4, .slice ya5 X2.log.length yc5, .slice ya6 X2.known.length yc6] 31)) (Nat.le_refl _))
    have Y6 := hide (Y5.out.below (Below.plus (Below.refl _ w5) (.cells #[.int .i64 X2.self, .slice ya1 X2.st.clock.length yc1, .slice ya2 X2.st.lives.length yc2, .slice ya3 X2.st.tals.length yc3, .slice ya4 X2.base.length yc4, .slice ya5 X2.log.length yc5, .slice ya6 X2.known.length yc6] 31)) (Nat.le_refl _))
    have R6 := hide (Box.new w5 [.int .i64 X2.self, .slice ya1 X2.st.clock.length yc1, .slice ya2 X2.st.lives.length yc2, .slice ya3 X2.st.tals.length yc3, .slice ya4 X2.base.length yc4, .slice ya5 X2.log.length yc5, .slice ya6 X2.known.length yc6] 31)
    clear HB5 G5 J5 V5 D5 U5 P5 C5 B5 X5 Q5 Y5
    have cG0 := G6.out.get 0 rfl
    have cG1 := G6.out.get 1 rfl
    have cG2 := G6.out.get 2 rfl
    have cG3 := G6.out.get 3 rfl
    have cG4 := G6.out.get 4 rfl
    have cG5 := G6.out.get 5 rfl
    have cG6 := G6.out.get 6 rfl
    go_wp2_with fail
    refine (prune_node _ d _ D6.out).mono ?_
    rintro e w7 ⟨vZ, rfl, hZ, hb⟩
    have HB7 := hide (below_step HB6.out hb)
    have G7 := hide (G6.out.below hb (Nat.le_refl _))
    have J7 := hide (J6.out.below hb (Nat.le_refl _))
    have V7 := hide (V6.out.below hb (Nat.le_refl _))
    have D7 := hide (D6.out.below hb (Nat.le_refl _))
    have U7 := hide (U6.out.below hb (Nat.le_refl _))
    have P7 := hide (P6.out.below hb (Nat.le_refl _))
    have C7 := hide (C6.out.below hb (Nat.le_refl _))
    have B7 := hide (B6.out.below hb (Nat.le_refl _))
    have X7 := hide (X6.out.below hb (Nat.le_refl _))
    have Q7 := hide (Q6.out.below hb (Nat.le_refl _))
    have Y7 := hide (Y6.out.below hb (Nat.le_refl _))
    have R7 := hide (R6.out.below hb (Nat.le_refl _))
    have Z7 := hide hZ
    clear HB6 hb G6 J6 V6 D6 U6 P6 C6 B6 X6 Q6 Y6 R6
    rw [HE.out]
    rw [HX3.out] at Z7
    clear cG0 cG1 cG2 cG3 cG4 cG5 cG6
    obtain ⟨za1, zc1, za2, zc2, za3, zc3, za4, zc4, za5, zc5, za6, zc6, hvz⟩ := Z7.out.form
    subst hvz
    clear hZ
    clear J7 V7 U7 P7 D7
    have HB8 := hide (below_step HB7.out (Below.plus (Below.refl _ w7) (.cells #[.int .i64 X3.self, .slice za1 X3.st.clock.length zc1, .slice za2 X3.st.lives.length zc2, .slice za3 X3.st.tals.length zc3, .slice za4 X3.base.length zc4, .slice za5 X3.log.length zc5, .slice za6 X3.known.length zc6] 31)))
    have G8 := hide (G7.out.below (Below.plus (Below.refl _ w7) (.cells #[.int .i64 X3.self, .slice za1 X3.st.clock.length zc1, .slice za2 X3.st.lives.length zc2, .slice za3 X3.st.tals.length zc3, .slice za4 X3.base.length zc4, .slice za5 X3.log.length zc5, .slice za6 X3.known.length zc6] 31)) (Nat.le_refl _))
    have C8 := hide (C7.out.below (Below.plus (Below.refl _ w7) (.cells #[.int .i64 X3.self, .slice za1 X3.st.clock.length zc1, .slice za2 X3.st.lives.length zc2, .slice za3 X3.st.tals.length zc3, .slice za4 X3.base.length zc4, .slice za5 X3.log.length zc5, .slice za6 X3.known.length zc6] 31)) (Nat.le_refl _))
    have B8 := hide (B7.out.below (Below.plus (Below.refl _ w7) (.cells #[.int .i64 X3.self, .slice za1 X3.st.clock.length zc1, .slice za2 X3.st.lives.length zc2, .slice za3 X3.st.tals.length zc3, .slice za4 X3.base.length zc4, .slice za5 X3.log.length zc5, .slice za6 X3.known.length zc6] 31)) (Nat.le_refl _))
    have X8 := hide (X7.out.below (Below.plus (Below.refl _ w7) (.cells #[.int .i64 X3.self, .slice za1 X3.st.clock.length zc1, .slice za2 X3.st.lives.length zc2, .slice za3 X3.st.tals.length zc3, .slice za4 X3.base.length zc4, .slice za5 X3.log.length zc5, .slice za6 X3.known.length zc6] 31)) (Nat.le_refl _))
    have Q8 := hide (Q7.out.below (Below.plus (Below.refl _ w7) (.cells #[.int .i64 X3.self, .slice za1 X3.st.clock.length zc1, .slice za2 X3.st.lives.length zc2, .slice za3 X3.st.tals.length zc3, .slice za4 X3.base.length zc4, .slice za5 X3.log.length zc5, .slice za6 X3.known.length zc6] 31)) (Nat.le_refl _))
    have Y8 := hide (Y7.out.below (Below.plus (Below.refl _ w7) (.cells #[.int .i64 X3.self, .slice za1 X3.st.clock.length zc1, .slice za2 X3.st.lives.length zc2, .slice za3 X3.st.tals.length zc3, .slice za4 X3.base.length zc4, .slice za5 X3.log.length zc5, .slice za6 X3.known.length zc6] 31)) (Nat.le_refl _))
    have R8 := hide (R7.out.below (Below.plus (Below.refl _ w7) (.cells #[.int .i64 X3.self, .slice za1 X3.st.clock.length zc1, .slice za2 X3.st.lives.length zc2, .slice za3 X3.st.tals.length zc3, .slice za4 X3.base.length zc4, .slice za5 X3.log.length zc5, .slice za6 X3.known.length zc6] 31)) (Nat.le_refl _))
    have Z8 := hide (Z7.out.below (Below.plus (Below.refl _ w7) (.cells #[.int .i64 X3.self, .slice za1 X3.st.clock.length zc1, .slice za2 X3.st.lives.length zc2, .slice za3 X3.st.tals.length zc3, .slice za4 X3.base.length zc4, .slice za5 X3.log.length zc5, .slice za6 X3.known.length zc6] 31)) (Nat.le_refl _))
    have T8 := hide (Box.new w7 [.int .i64 X3.self, .slice za1 X3.st.clock.length zc1, .slice za2 X3.st.lives.length zc2, .slice za3 X3.st.tals.length zc3, .slice za4 X3.base.length zc4, .slice za5 X3.log.length zc5, .slice za6 X3.known.length zc6] 31)
    clear HB7 G7 C7 B7 X7 Q7 Y7 R7 Z7
    have cQ0 := Q8.out.get 0 rfl
    have cQ1 := Q8.out.get 1 rfl
    have cQ2 := Q8.out.get 2 rfl
    have cQ3 := Q8.out.get 3 rfl
    have cQ4 := Q8.out.get 4 rfl
    have cQ5 := Q8.out.get 5 rfl
    have cQ6 := Q8.out.get 6 rfl
    have cR0 := R8.out.get 0 rfl
    have cR1 := R8.out.get 1 rfl
    have cR2 := R8.out.get 2 rfl
    have cR3 := R8.out.get 3 rfl
    have cR4 := R8.out.get 4 rfl
    have cR5 := R8.out.get 5 rfl
    have cR6 := R8.out.get 6 rfl
    have cT0 := T8.out.get 0 rfl
    have cT1 := T8.out.get 1 rfl
    have cT2 := T8.out.get 2 rfl
    have cT3 := T8.out.get 3 rfl
    have cT4 := T8.out.get 4 rfl
    have cT5 := T8.out.get 5 rfl
    have cT6 := T8.out.get 6 rfl
    have HB9 := hide (below_step HB8.out (Below.plus (Below.refl _ (w7.alloc (.cells #[.int .i64 X3.self, .slice za1 X3.st.clock.length zc1, .slice za2 X3.st.lives.length zc2, .slice za3 X3.st.tals.length zc3, .slice za4 X3.base.length zc4, .slice za5 X3.log.length zc5, .slice za6 X3.known.length zc6] 31))) (.cells #[.int .i64 X1.self, .slice xa1 X1.st.clock.length xc1, .slice xa2 X1.st.lives.length xc2, .slice xa3 X1.st.tals.length xc3, .slice xa4 X1.base.length xc4, .slice xa5 X1.log.length xc5, .slice xa6 X1.known.length xc6, .int .i64 X2.self, .slice ya1 X2.st.clock.length yc1, .slice ya2 X2.st.lives.length yc2, .slice ya3 X2.st.tals.length yc3, .slice ya4 X2.base.length yc4, .slice ya5 X2.log.length yc5, .slice ya6 X2.known.length yc6, .int .i64 X3.self, .slice za1 X3.st.clock.length zc1, .slice za2 X3.st.lives.length zc2, .slice za3 X3.st.tals.length zc3, .slice za4 X3.base.length zc4, .slice za5 X3.log.length zc5, .slice za6 X3.known.length zc6] 31)))
    have G9 := hide (G8.out.below (Below.plus (Below.refl _ (w7.alloc (.cells #[.int .i64 X3.self, .slice za1 X3.st.clock.length zc1, .slice za2 X3.st.lives.length zc2, .slice za3 X3.st.tals.length zc3, .slice za4 X3.base.length zc4, .slice za5 X3.log.length zc5, .slice za6 X3.known.length zc6] 31))) (.cells #[.int .i64 X1.self, .slice xa1 X1.st.clock.length xc1, .slice xa2 X1.st.lives.length xc2, .slice xa3 X1.st.tals.length xc3, .slice xa4 X1.base.length xc4, .slice xa5 X1.log.length xc5, .slice xa6 X1.known.length xc6, .int .i64 X2.self, .slice ya1 X2.st.clock.length yc1, .slice ya2 X2.st.lives.length yc2, .slice ya3 X2.st.tals.length yc3, .slice ya4 X2.base.length yc4, .slice ya5 X2.log.length yc5, .slice ya6 X2.known.length yc6, .int .i64 X3.self, .slice za1 X3.st.clock.length zc1, .slice za2 X3.st.lives.length zc2, .slice za3 X3.st.tals.length zc3, .slice za4 X3.base.length zc4, .slice za5 X3.log.length zc5, .slice za6 X3.known.length zc6] 31)) (Nat.le_refl _))
    have C9 := hide (C8.out.below (Below.plus (Below.refl _ (w7.alloc (.cells #[.int .i64 X3.self, .slice za1 X3.st.clock.length zc1, .slice za2 X3.st.lives.length zc2, .slice za3 X3.st.tals.length zc3, .slice za4 X3.base.length zc4, .slice za5 X3.log.length zc5, .slice za6 X3.known.length zc6] 31))) (.cells #[.int .i64 X1.self, .slice xa1 X1.st.clock.length xc1, .slice xa2 X1.st.lives.length xc2, .slice xa3 X1.st.tals.length xc3, .slice xa4 X1.base.length xc4, .slice xa5 X1.log.length xc5, .slice xa6 X1.known.length xc6, .int .i64 X2.self, .slice ya1 X2.st.clock.length yc1, .slice ya2 X2.st.lives.length yc2, .slice ya3 X2.st.tals.length yc3, .slice ya4 X2.base.length yc4, .slice ya5 X2.log.length yc5, .slice ya6 X2.known.length yc6, .int .i64 X3.self, .slice za1 X3.st.clock.length zc1, .slice za2 X3.st.lives.length zc2, .slice za3 X3.st.tals.length zc3, .slice za4 X3.base.length zc4, .slice za5 X3.log.length zc5, .slice za6 X3.known.length zc6] 31)) (Nat.le_refl _))
    have B9 := hide (B8.out.below (Below.plus (Below.refl _ (w7.alloc (.cells #[.int .i64 X3.self, .slice za1 X3.st.clock.length zc1, .slice za2 X3.st.lives.length zc2, .slice za3 X3.st.tals.length zc3, .slice za4 X3.base.length zc4, .slice za5 X3.log.length zc5, .slice za6 X3.known.length zc6] 31))) (.cells #[.int .i64 X1.self, .slice xa1 X1.st.clock.length xc1, .slice xa2 X1.st.lives.length xc2, .slice xa3 X1.st.tals.length xc3, .slice xa4 X1.base.length xc4, .slice xa5 X1.log.length xc5, .slice xa6 X1.known.length xc6, .int .i64 X2.self, .slice ya1 X2.st.clock.length yc1, .slice ya2 X2.st.lives.length yc2, .slice ya3 X2.st.tals.length yc3, .slice ya4 X2.base.length yc4, .slice ya5 X2.log.length yc5, .slice ya6 X2.known.length yc6, .int .i64 X3.self, .slice za1 X3.st.clock.length zc1, .slice za2 X3.st.lives.length zc2, .slice za3 X3.st.tals.length zc3, .slice za4 X3.base.length zc4, .slice za5 X3.log.length zc5, .slice za6 X3.known.length zc6] 31)) (Nat.le_refl _))
    have X9 := hide (X8.out.below (Below.plus (Below.refl _ (w7.alloc (.cells #[.int .i64 X3.self, .slice za1 X3.st.clock.length zc1, .slice za2 X3.st.lives.length zc2, .slice za3 X3.st.tals.length zc3, .slice za4 X3.base.length zc4, .slice za5 X3.log.length zc5, .slice za6 X3.known.length zc6] 31))) (.cells #[.int .i64 X1.self, .slice xa1 X1.st.clock.length xc1, .slice xa2 X1.st.lives.length xc2, .slice xa3 X1.st.tals.length xc3, .slice xa4 X1.base.length xc4, .slice xa5 X1.log.length xc5, .slice xa6 X1.known.length xc6, .int .i64 X2.self, .slice ya1 X2.st.clock.length yc1, .slice ya2 X2.st.lives.length yc2, .slice ya3 X2.st.tals.length yc3, .slice ya4 X2.base.length yc4, .slice ya5 X2.log.length yc5, .slice ya6 X2.known.length yc6, .int .i64 X3.self, .slice za1 X3.st.clock.length zc1, .slice za2 X3.st.lives.length zc2, .slice za3 X3.st.tals.length zc3, .slice za4 X3.base.length zc4, .slice za5 X3.log.length zc5, .slice za6 X3.known.length zc6] 31)) (Nat.le_refl _))
    have Q9 := hide (Q8.out.below (Below.plus (Below.refl _ (w7.alloc (.cells #[.int .i64 X3.self, .slice za1 X3.st.clock.length zc1, .slice za2 X3.st.lives.length zc2, .slice za3 X3.st.tals.length zc3, .slice za4 X3.base.length zc4, .slice za5 X3.log.length zc5, .slice za6 X3.known.length zc6] 31))) (.cells #[.int .i64 X1.self, .slice xa1 X1.st.clock.length xc1, .slice xa2 X1.st.lives.length xc2, .slice xa3 X1.st.tals.length xc3, .slice xa4 X1.base.length xc4, .slice xa5 X1.log.length xc5, .slice xa6 X1.known.length xc6, .int .i64 X2.self, .slice ya1 X2.st.clock.length yc1, .slice ya2 X2.st.lives.length yc2, .slice ya3 X2.st.tals.length yc3, .slice ya4 X2.base.length yc4, .slice ya5 X2.log.length yc5, .slice ya6 X2.known.length yc6, .int .i64 X3.self, .slice za1 X3.st.clock.length zc1, .slice za2 X3.st.lives.length zc2, .slice za3 X3.st.tals.length zc3, .slice za4 X3.base.length zc4, .slice za5 X3.log.length zc5, .slice za6 X3.known.length zc6] 31)) (Nat.le_refl _))
    have Y9 := hide (Y8.out.below (Below.plus (Below.refl _ (w7.alloc (.cells #[.int .i64 X3.self, .slice za1 X3.st.clock.length zc1, .slice za2 X3.st.lives.length zc2, .slice za3 X3.st.tals.length zc3, .slice za4 X3.base.length zc4, .slice za5 X3.log.length zc5, .slice za6 X3.known.length zc6] 31))) (.cells #[.int .i64 X1.self, .slice xa1 X1.st.clock.length xc1, .slice xa2 X1.st.lives.length xc2, .slice xa3 X1.st.tals.length xc3, .slice xa4 X1.base.length xc4, .slice xa5 X1.log.length xc5, .slice xa6 X1.known.length xc6, .int .i64 X2.self, .slice ya1 X2.st.clock.length yc1, .slice ya2 X2.st.lives.length yc2, .slice ya3 X2.st.tals.length yc3, .slice ya4 X2.base.length yc4, .slice ya5 X2.log.length yc5, .slice ya6 X2.known.length yc6, .int .i64 X3.self, .slice za1 X3.st.clock.length zc1, .slice za2 X3.st.lives.length zc2, .slice za3 X3.st.tals.length zc3, .slice za4 X3.base.length zc4, .slice za5 X3.log.length zc5, .slice za6 X3.known.length zc6] 31)) (Nat.le_refl _))
    have R9 := hide (R8.out.below (Below.plus (Below.refl _ (w7.alloc (.cells #[.int .i64 X3.self, .slice za1 X3.st.clock.length zc1, .slice za2 X3.st.lives.length zc2, .slice za3 X3.st.tals.length zc3, .slice za4 X3.base.length zc4, .slice za5 X3.log.length zc5, .slice za6 X3.known.length zc6] 31))) (.cells #[.int .i64 X1.self, .slice xa1 X1.st.clock.length xc1, .slice xa2 X1.st.lives.length xc2, .slice xa3 X1.st.tals.length xc3, .slice xa4 X1.base.length xc4, .slice xa5 X1.log.length xc5, .slice xa6 X1.known.length xc6, .int .i64 X2.self, .slice ya1 X2.st.clock.length yc1, .slice ya2 X2.st.lives.length yc2, .slice ya3 X2.st.tals.length yc3, .slice ya4 X2.base.length yc4, .slice ya5 X2.log.length yc5, .slice ya6 X2.known.length yc6, .int .i64 X3.self, .slice za1 X3.st.clock.length zc1, .slice za2 X3.st.lives.length zc2, .slice za3 X3.st.tals.length zc3, .slice za4 X3.base.length zc4, .slice za5 X3.log.length zc5, .slice za6 X3.known.length zc6] 31)) (Nat.le_refl _))
    have Z9 := hide (Z8.out.below (Below.plus (Below.refl _ (w7.alloc (.cells #[.int .i64 X3.self, .slice za1 X3.st.clock.length zc1, .slice za2 X3.st.lives.length zc2, .slice za3 X3.st.tals.length zc3, .slice za4 X3.base.length zc4, .slice za5 X3.log.length zc5, .slice za6 X3.known.length zc6] 31))) (.cells #[.int .i64 X1.self, .slice xa1 X1.st.clock.length xc1, .slice xa2 X1.st.lives.length xc2, .slice xa3 X1.st.tals.length xc3, .slice xa4 X1.base.length xc4, .slice xa5 X1.log.length xc5, .slice xa6 X1.known.length xc6, .int .i64 X2.self, .slice ya1 X2.st.clock.length yc1, .slice ya2 X2.st.lives.length yc2, .slice ya3 X2.st.tals.length yc3, .slice ya4 X2.base.length yc4, .slice ya5 X2.log.length yc5, .slice ya6 X2.known.length yc6, .int .i64 X3.self, .slice za1 X3.st.clock.length zc1, .slice za2 X3.st.lives.length zc2, .slice za3 X3.st.tals.length zc3, .slice za4 X3.base.length zc4, .slice za5 X3.log.length zc5, .slice za6 X3.known.length zc6] 31)) (Nat.le_refl _))
    have T9 := hide (T8.out.below (Below.plus (Below.refl _ (w7.alloc (.cells #[.int .i64 X3.self, .slice za1 X3.st.clock.length zc1, .slice za2 X3.st.lives.length zc2, .slice za3 X3.st.tals.length zc3, .slice za4 X3.base.length zc4, .slice za5 X3.log.length zc5, .slice za6 X3.known.length zc6] 31))) (.cells #[.int .i64 X1.self, .slice xa1 X1.st.clock.length xc1, .slice xa2 X1.st.lives.length xc2, .slice xa3 X1.st.tals.length xc3, .slice xa4 X1.base.length xc4, .slice xa5 X1.log.length xc5, .slice xa6 X1.known.length xc6, .int .i64 X2.self, .slice ya1 X2.st.clock.length yc1, .slice ya2 X2.st.lives.length yc2, .slice ya3 X2.st.tals.length yc3, .slice ya4 X2.base.length yc4, .slice ya5 X2.log.length yc5, .slice ya6 X2.known.length yc6, .int .i64 X3.self, .slice za1 X3.st.clock.length zc1, .slice za2 X3.st.lives.length zc2, .slice za3 X3.st.tals.length zc3, .slice za4 X3.base.length zc4, .slice za5 X3.log.length zc5, .slice za6 X3.known.length zc6] 31)) (Nat.le_refl _))
    have S9 := hide (Box.new (w7.alloc (.cells #[.int .i64 X3.self, .slice za1 X3.st.clock.length zc1, .slice za2 X3.st.lives.length zc2, .slice za3 X3.st.tals.length zc3, .slice za4 X3.base.length zc4, .slice za5 X3.log.length zc5, .slice za6 X3.known.length zc6] 31)) [.int .i64 X1.self, .slice xa1 X1.st.clock.length xc1, .slice xa2 X1.st.lives.length xc2, .slice xa3 X1.st.tals.length xc3, .slice xa4 X1.base.length xc4, .slice xa5 X1.log.length xc5, .slice xa6 X1.known.length xc6, .int .i64 X2.self, .slice ya1 X2.st.clock.length yc1, .slice ya2 X2.st.lives.length yc2, .slice ya3 X2.st.tals.length yc3, .slice ya4 X2.base.length yc4, .slice ya5 X2.log.length yc5, .slice ya6 X2.known.length yc6, .int .i64 X3.self, .slice za1 X3.st.clock.length zc1, .slice za2 X3.st.lives.length zc2, .slice za3 X3.st.tals.length zc3, .slice za4 X3.base.length zc4, .slice za5 X3.log.length zc5, .slice za6 X3.known.length zc6] 31)
    clear HB8 G8 C8 B8 X8 Q8 Y8 R8 Z8 T8
    simp only [World.size_alloc] at S9
    clear Q9 R9 T9
    go_wp2_with fail
    clear cQ0 cQ1 cQ2 cQ3 cQ4 cQ5 cQ6 cR0 cR1 cR2 cR3 cR4 cR5 cR6 cT0 cT1 cT2 cT3 cT4 cT5 cT6
    obtain ⟨w9, HW9⟩ : ∃ w9, Hid ((w7.alloc (.cells #[.int .i64 X3.self, .slice za1 X3.st.clock.length zc1, .slice za2 X3.st.lives.length zc2, .slice za3 X3.st.tals.length zc3, .slice za4 X3.base.length zc4, .slice za5 X3.log.length zc5, .slice za6 X3.known.length zc6] 31)).alloc (.cells #[.int .i64 X1.self, .slice xa1 X1.st.clock.length xc1, .slice xa2 X1.st.lives.length xc2, .slice xa3 X1.st.tals.length xc3, .slice xa4 X1.base.length xc4, .slice xa5 X1.log.length xc5, .slice xa6 X1.known.length xc6, .int .i64 X2.self, .slice ya1 X2.st.clock.length yc1, .slice ya2 X2.st.lives.length yc2, .slice ya3 X2.st.tals.length yc3, .slice ya4 X2.base.length yc4, .slice ya5 X2.log.length yc5, .slice ya6 X2.known.length yc6, .int .i64 X3.self, .slice za1 X3.st.clock.length zc1, .slice za2 X3.st.lives.length zc2, .slice za3 X3.st.tals.length zc3, .slice za4 X3.base.length zc4, .slice za5 X3.log.length zc5, .slice za6 X3.known.length zc6] 31) = w9) := ⟨_, rfl⟩
    rw [HW9.out] at G9 C9 B9 X9 Y9 Z9 S9 HB9 ⊢
    go_loopw [45] (fun q wr => ∃ k : Nat, k ≤ 3 ∧ q = .int .i64 k ∧ Hid (Below w9.heap.size w9 wr)) (fun q _ => 3 - (intOf q).toNat)
    case atStart => exact ⟨0, Nat.zero_le _, rfl, hide (Below.refl _ _)⟩
    case round =>
      obtain ⟨k, hk, rfl, HBk⟩ := hrel
      obtain ⟨w20, rfl⟩ : ∃ w20, w20 = wr := ⟨wr, rfl⟩
      have HB20 := hide (below_step HB9.out HBk.out)
      have G20 := hide (G9.out.below HBk.out (Nat.le_refl _))
      have C20 := hide (C9.out.below HBk.out (Nat.le_refl _))
      have B20 := hide (B9.out.below HBk.out (Nat.le_refl _))
      have S20 := hide (S9.out.below HBk.out (Nat.le_refl _))
      have hk3 : k = 0 ∨ k = 1 ∨ k = 2 ∨ k = 3 := by omega
      rcases hk3 with rfl | rfl | rfl | rfl
      · by_cases hE0 : E1 = 0
        · have FF := hide (F1.out hE0)
          subst hE0
          clear F1
          rw [show ((0 : Nat) : Int) = 0 from rfl]
          have s0 := S20.out.get 0 rfl
          have s1 := S20.out.get 1 rfl
          have s2 := S20.out.get 2 rfl
          have s3 := S20.out.get 3 rfl
          have s4 := S20.out.get 4 rfl
          have s5 := S20.out.get 5 rfl
          have s6 := S20.out.get 6 rfl
          have N20 := hide (X9.out.below HBk.out (Nat.le_refl _))
          have hbp := Below.plus (Below.refl w20.heap.size w20) (.cells #[.int .i64 X1.self, .slice xa1 X1.st.clock.length xc1, .slice xa2 X1.st.lives.length xc2, .slice xa3 X1.st.tals.length xc3, .slice xa4 X1.base.length xc4, .slice xa5 X1.log.length xc5, .slice xa6 X1.known.length xc6] 31)
          have X21 := Box.new w20 [.int .i64 X1.self, .slice xa1 X1.st.clock.length xc1, .slice xa2 X1.st.lives.length xc2, .slice xa3 X1.st.tals.length xc3, .slice xa4 X1.base.length xc4, .slice xa5 X1.log.length xc5, .slice xa6 X1.known.length xc6] 31
          obtain ⟨w21, HW21⟩ : ∃ w21, Hid (w20.alloc (.cells #[.int .i64 X1.self, .slice xa1 X1.st.clock.length xc1, .slice xa2 X1.st.lives.length xc2, .slice xa3 X1.st.tals.length xc3, .slice xa4 X1.base.length xc4, .slice xa5 X1.log.length xc5, .slice xa6 X1.known.length xc6] 31) = w21) := ⟨_, rfl⟩
          rw [HW21.out] at hbp X21
          have hbq := below_step hbp (Below.plus (Below.refl w21.heap.size w21) (.cells #[.int .i64 0, .int .i64 E2, .int .i64 0] 36))
          have X22 := X21.plus (.cells #[.int .i64 0, .int .i64 E2, .int .i64 0] 36)
          obtain ⟨w22, HW22⟩ : ∃ w22, Hid (w21.alloc (.cells #[.int .i64 0, .int .i64 E2, .int .i64 0] 36) = w22) := ⟨_, rfl⟩
          rw [HW22.out] at hbq X22
          have HX22 := hide X22
          have HBQ := hide (below_step HBk.out hbq)
          have N22 := hide (N20.out.below hbq (Nat.le_refl _))
          have G22 := hide (G20.out.below hbq (Nat.le_refl _))
          have C22 := hide (C20.out.below hbq (Nat.le_refl _))
          have B22 := hide (B20.out.below hbq (Nat.le_refl _))
          clear hbp hbq X21 X22 G20 C20 B20 S20 N20 HB20
          go_upto_region 11 with fail
          rw [HW21.out]
          clear s0 s1 s2 s3 s4 s5 s6
          go_upto_region 12 with fail
          rw [HW22.out]
          have q0 := HX22.out.get 0 rfl
          have q1 := HX22.out.get 1 rfl
          have q2 := HX22.out.get 2 rfl
          have q3 := HX22.out.get 3 rfl
          have q4 := HX22.out.get 4 rfl
          have q5 := HX22.out.get 5 rfl
          have q6 := HX22.out.get 6 rfl
          go_wp2_with fail
          refine (wrong_node _ X1 _ N22.out.node).mono ?_
          rintro e w23 ⟨rfl, hb23⟩
          rw [FF.out.1]
          have X23 := HX22.out.below hb23 (Nat.le_refl _)
          have G23 := G22.out.below hb23 (Nat.le_refl _)
          have N23 := hide (N22.out.below hb23 (Nat.le_refl _))
          have C23 := hide (C22.out.below hb23 (Nat.le_refl _))
          have B23 := hide (B22.out.below hb23 (Nat.le_refl _))
          have HB23 := hide (below_step HBQ.out hb23)
          have HX23 := hide X23
          have HG23 := hide G23
          have x1 := X23.get 1 rfl
          have g1 := G23.get 1 rfl
          clear q0 q1 q2 q3 q4 q5 q6 hb23 X23 G23 HX22 G22 N22 C22 B22 HBQ
          go_wp2_with fail
          refine (sees_clock _ _ X1.st.clock d.st.clock _ N23.out.clk.1 C23.out).mono ?_
          rintro e w24 ⟨rfl, hb24⟩
          rw [FF.out.2.1]
          have X24 := HX23.out.below hb24 (Nat.le_refl _)
          have G24 := HG23.out.below hb24 (Nat.le_refl _)
          have N24 := hide (N23.out.below hb24 (Nat.le_refl _))
          have B24 := hide (B23.out.below hb24 (Nat.le_refl _))
          have HB24 := hide (below_step HB23.out hb24)
          have x4 := X24.get 4 rfl
          have g4 := G24.get 4 rfl
          clear x1 g1 hb24 X24 G24 HX23 HG23 N23 C23 B23 HB23
          go_wp2_with fail
          refine (sees_clock _ _ X1.base d.base _ N24.out.clk.2.1 B24.out).mono ?_
          rintro e w25 ⟨rfl, hb25⟩
          rw [FF.out.2.2]
          have HB25 := hide (below_step HB24.out hb25)
          clear x4 g4 hb25 N24 B24 HB24
          go_wp2_with fail
          go_roundw
          case rel => exact ⟨1, by omega, by go_num, HB25⟩
          case measure => simp [intOf]
        · have hE' : (E1 != 0) = true := by simp [hE0]
          clear hE0 F1
          rw [show ((0 : Nat) : Int) = 0 from rfl]
          have s0 := S20.out.get 0 rfl
          have s1 := S20.out.get 1 rfl
          have s2 := S20.out.get 2 rfl
          have s3 := S20.out.get 3 rfl
          have s4 := S20.out.get 4 rfl
          have s5 := S20.out.get 5 rfl
          have s6 := S20.out.get 6 rfl
          have N20 := hide (X9.out.below HBk.out (Nat.le_refl _))
          have hbp := Below.plus (Below.refl w20.heap.size w20) (.cells #[.int .i64 X1.self, .slice xa1 X1.st.clock.length xc1, .slice xa2 X1.st.lives.length xc2, .slice xa3 X1.st.tals.length xc3, .slice xa4 X1.base.length xc4, .slice xa5 X1.log.length xc5, .slice xa6 X1.known.length xc6] 31)
          have X21 := Box.new w20 [.int .i64 X1.self, .slice xa1 X1.st.clock.length xc1, .slice xa2 X1.st.lives.length xc2, .slice xa3 X1.st.tals.length xc3, .slice xa4 X1.base.length xc4, .slice xa5 X1.log.length xc5, .slice xa6 X1.known.length xc6] 31
          obtain ⟨w21, HW21⟩ : ∃ w21, Hid (w20.alloc (.cells #[.int .i64 X1.self, .slice xa1 X1.st.clock.length xc1, .slice xa2 X1.st.lives.length xc2, .slice xa3 X1.st.tals.length xc3, .slice xa4 X1.base.length xc4, .slice xa5 X1.log.length xc5, .slice xa6 X1.known.length xc6] 31) = w21) := ⟨_, rfl⟩
          rw [HW21.out] at hbp X21
          have hbq := below_step hbp (Below.plus (Below.refl w21.heap.size w21) (.cells #[.int .i64 E1, .int .i64 E2, .int .i64 0] 36))
          have X22 := X21.plus (.cells #[.int .i64 E1, .int .i64 E2, .int .i64 0] 36)
          obtain ⟨w22, HW22⟩ : ∃ w22, Hid (w21.alloc (.cells #[.int .i64 E1, .int .i64 E2, .int .i64 0] 36) = w22) := ⟨_, rfl⟩
          rw [HW22.out] at hbq X22
          have HX22 := hide X22
          have HBQ := hide (below_step HBk.out hbq)
          have N22 := hide (N20.out.below hbq (Nat.le_refl _))
          have G22 := hide (G20.out.below hbq (Nat.le_refl _))
          have C22 := hide (C20.out.below hbq (Nat.le_refl _))
          have B22 := hide (B20.out.below hbq (Nat.le_refl _))
          clear hbp hbq X21 X22 G20 C20 B20 S20 N20 HB20
          go_upto_region 11 with fail
          rw [HW21.out]
          clear s0 s1 s2 s3 s4 s5 s6
          go_wp2_with fail
          rw [HW22.out]
          go_roundw
          case rel => exact ⟨1, by omega, by go_num, HBQ⟩
          case measure => simp [intOf]
      · by_cases hE1 : E2 = 0
        · have FF := hide (F2.out hE1)
          subst hE1
          clear F2
          rw [show ((1 : Nat) : Int) = 1 from rfl]
          have s0 := S20.out.get 7 rfl
          have s1 := S20.out.get 8 rfl
          have s2 := S20.out.get 9 rfl
          have s3 := S20.out.get 10 rfl
          have s4 := S20.out.get 11 rfl
          have s5 := S20.out.get 12 rfl
          have s6 := S20.out.get 13 rfl
          have N20 := hide (Y9.out.below HBk.out (Nat.le_refl _))
          have hbp := Below.plus (Below.refl w20.heap.size w20) (.cells #[.int .i64 X2.self, .slice ya1 X2.st.clock.length yc1, .slice ya2 X2.st.lives.length yc2, .slice ya3 X2.st.tals.length yc3, .slice ya4 X2.base.length yc4, .slice ya5 X2.log.length yc5, .slice ya6 X2.known.length yc6] 31)
          have X21 := Box.new w20 [.int .i64 X2.self, .slice ya1 X2.st.clock.length yc1, .slice ya2 X2.st.lives.length yc2, .slice ya3 X2.st.tals.length yc3, .slice ya4 X2.base.length yc4, .slice ya5 X2.log.length yc5, .slice ya6 X2.known.length yc6] 31
          obtain ⟨w21, HW21⟩ : ∃ w21, Hid (w20.alloc (.cells #[.int .i64 X2.self, .slice ya1 X2.st.clock.length yc1, .slice ya2 X2.st.lives.length yc2, .slice ya3 X2.st.tals.length yc3, .slice ya4 X2.base.length yc4, .slice ya5 X2.log.length yc5, .slice ya6 X2.known.length yc6] 31) = w21) := ⟨_, rfl⟩
          rw [HW21.out] at hbp X21
          have hbq := below_step hbp (Below.plus (Below.refl w21.heap.size w21) (.cells #[.int .i64 E1, .int .i64 0, .int .i64 0] 36))
          have X22 := X21.plus (.cells #[.int .i64 E1, .int .i64 0, .int .i64 0] 36)
          obtain ⟨w22, HW22⟩ : ∃ w22, Hid (w21.alloc (.cells #[.int .i64 E1, .int .i64 0, .int .i64 0] 36) = w22) := ⟨_, rfl⟩
          rw [HW22.out] at hbq X22
          have HX22 := hide X22
          have HBQ := hide (below_step HBk.out hbq)
          have N22 := hide (N20.out.below hbq (Nat.le_refl _))
          have G22 := hide (G20.out.below hbq (Nat.le_refl _))
          have C22 := hide (C20.out.below hbq (Nat.le_refl _))
          have B22 := hide (B20.out.below hbq (Nat.le_refl _))
          clear hbp hbq X21 X22 G20 C20 B20 S20 N20 HB20
          go_upto_region 11 with fail
          rw [HW21.out]
          clear s0 s1 s2 s3 s4 s5 s6
          go_upto_region 12 with fail
          rw [HW22.out]
          have q0 := HX22.out.get 0 rfl
          have q1 := HX22.out.get 1 rfl
          have q2 := HX22.out.get 2 rfl
          have q3 := HX22.out.get 3 rfl
          have q4 := HX22.out.get 4 rfl
          have q5 := HX22.out.get 5 rfl
          have q6 := HX22.out.get 6 rfl
          go_wp2_with fail
          refine (wrong_node _ X2 _ N22.out.node).mono ?_
          rintro e w23 ⟨rfl, hb23⟩
          rw [FF.out.1]
          have X23 := HX22.out.below hb23 (Nat.le_refl _)
          have G23 := G22.out.below hb23 (Nat.le_refl _)
          have N23 := hide (N22.out.below hb23 (Nat.le_refl _))
          have C23 := hide (C22.out.below hb23 (Nat.le_refl _))
          have B23 := hide (B22.out.below hb23 (Nat.le_refl _))
          have HB23 := hide (below_step HBQ.out hb23)
          have HX23 := hide X23
          have HG23 := hide G23
          have x1 := X23.get 1 rfl
          have g1 := G23.get 1 rfl
          clear q0 q1 q2 q3 q4 q5 q6 hb23 X23 G23 HX22 G22 N22 C22 B22 HBQ
          go_wp2_with fail
          refine (sees_clock _ _ X2.st.clock d.st.clock _ N23.out.clk.1 C23.out).mono ?_
          rintro e w24 ⟨rfl, hb24⟩
          rw [FF.out.2.1]
          have X24 := HX23.out.below hb24 (Nat.le_refl _)
          have G24 := HG23.out.below hb24 (Nat.le_refl _)
          have N24 := hide (N23.out.below hb24 (Nat.le_refl _))
          have B24 := hide (B23.out.below hb24 (Nat.le_refl _))
          have HB24 := hide (below_step HB23.out hb24)
          have x4 := X24.get 4 rfl
          have g4 := G24.get 4 rfl
          clear x1 g1 hb24 X24 G24 HX23 HG23 N23 C23 B23 HB23
          go_wp2_with fail
          refine (sees_clock _ _ X2.base d.base _ N24.out.clk.2.1 B24.out).mono ?_
          rintro e w25 ⟨rfl, hb25⟩
          rw [FF.out.2.2]
          have HB25 := hide (below_step HB24.out hb25)
          clear x4 g4 hb25 N24 B24 HB24
          go_wp2_with fail
          go_roundw
          case rel => exact ⟨2, by omega, by go_num, HB25⟩
          case measure => simp [intOf]
        · have hE' : (E2 != 0) = true := by simp [hE1]
          clear hE1 F2
          rw [show ((1 : Nat) : Int) = 1 from rfl]
          have s0 := S20.out.get 7 rfl
          have s1 := S20.out.get 8 rfl
          have s2 := S20.out.get 9 rfl
          have s3 := S20.out.get 10 rfl
          have s4 := S20.out.get 11 rfl
          have s5 := S20.out.get 12 rfl
          have s6 := S20.out.get 13 rfl
          have N20 := hide (Y9.out.below HBk.out (Nat.le_refl _))
          have hbp := Below.plus (Below.refl w20.heap.size w20) (.cells #[.int .i64 X2.self, .slice ya1 X2.st.clock.length yc1, .slice ya2 X2.st.lives.length yc2, .slice ya3 X2.st.tals.length yc3, .slice ya4 X2.base.length yc4, .slice ya5 X2.log.length yc5, .slice ya6 X2.known.length yc6] 31)
          have X21 := Box.new w20 [.int .i64 X2.self, .slice ya1 X2.st.clock.length yc1, .slice ya2 X2.st.lives.length yc2, .slice ya3 X2.st.tals.length yc3, .slice ya4 X2.base.length yc4, .slice ya5 X2.log.length yc5, .slice ya6 X2.known.length yc6] 31
          obtain ⟨w21, HW21⟩ : ∃ w21, Hid (w20.alloc (.cells #[.int .i64 X2.self, .slice ya1 X2.st.clock.length yc1, .slice ya2 X2.st.lives.length yc2, .slice ya3 X2.st.tals.length yc3, .slice ya4 X2.base.length yc4, .slice ya5 X2.log.length yc5, .slice ya6 X2.known.length yc6] 31) = w21) := ⟨_, rfl⟩
          rw [HW21.out] at hbp X21
          have hbq := below_step hbp (Below.plus (Below.refl w21.heap.size w21) (.cells #[.int .i64 E1, .int .i64 E2, .int .i64 0] 36))
          have X22 := X21.plus (.cells #[.int .i64 E1, .int .i64 E2, .int .i64 0] 36)
          obtain ⟨w22, HW22⟩ : ∃ w22, Hid (w21.alloc (.cells #[.int .i64 E1, .int .i64 E2, .int .i64 0] 36) = w22) := ⟨_, rfl⟩
          rw [HW22.out] at hbq X22
          have HX22 := hide X22
          have HBQ := hide (below_step HBk.out hbq)
          have N22 := hide (N20.out.below hbq (Nat.le_refl _))
          have G22 := hide (G20.out.below hbq (Nat.le_refl _))
          have C22 := hide (C20.out.below hbq (Nat.le_refl _))
          have B22 := hide (B20.out.below hbq (Nat.le_refl _))
          clear hbp hbq X21 X22 G20 C20 B20 S20 N20 HB20
          go_upto_region 11 with fail
          rw [HW21.out]
          clear s0 s1 s2 s3 s4 s5 s6
          go_wp2_with fail
          rw [HW22.out]
          go_roundw
          case rel => exact ⟨2, by omega, by go_num, HBQ⟩
          case measure => simp [intOf]
      · have FF := hide F3.out
        clear F3
        rw [show ((2 : Nat) : Int) = 2 from rfl]
        have s0 := S20.out.get 14 rfl
        have s1 := S20.out.get 15 rfl
        have s2 := S20.out.get 16 rfl
        have s3 := S20.out.get 17 rfl
        have s4 := S20.out.get 18 rfl
        have s5 := S20.out.get 19 rfl
        have s6 := S20.out.get 20 rfl
        have N20 := hide (Z9.out.below HBk.out (Nat.le_refl _))
        have hbp := Below.plus (Below.refl w20.heap.size w20) (.cells #[.int .i64 X3.self, .slice za1 X3.st.clock.length zc1, .slice za2 X3.st.lives.length zc2, .slice za3 X3.st.tals.length zc3, .slice za4 X3.base.length zc4, .slice za5 X3.log.length zc5, .slice za6 X3.known.length zc6] 31)
        have X21 := Box.new w20 [.int .i64 X3.self, .slice za1 X3.st.clock.length zc1, .slice za2 X3.st.lives.length zc2, .slice za3 X3.st.tals.length zc3, .slice za4 X3.base.length zc4, .slice za5 X3.log.length zc5, .slice za6 X3.known.length zc6] 31
        obtain ⟨w21, HW21⟩ : ∃ w21, Hid (w20.alloc (.cells #[.int .i64 X3.self, .slice za1 X3.st.clock.length zc1, .slice za2 X3.st.lives.length zc2, .slice za3 X3.st.tals.length zc3, .slice za4 X3.base.length zc4, .slice za5 X3.log.length zc5, .slice za6 X3.known.length zc6] 31) = w21) := ⟨_, rfl⟩
        rw [HW21.out] at hbp X21
        have hbq := below_step hbp (Below.plus (Below.refl w21.heap.size w21) (.cells #[.int .i64 E1, .int .i64 E2, .int .i64 0] 36))
        have X22 := X21.plus (.cells #[.int .i64 E1, .int .i64 E2, .int .i64 0] 36)
        obtain ⟨w22, HW22⟩ : ∃ w22, Hid (w21.alloc (.cells #[.int .i64 E1, .int .i64 E2, .int .i64 0] 36) = w22) := ⟨_, rfl⟩
        rw [HW22.out] at hbq X22
        have HX22 := hide X22
        have HBQ := hide (below_step HBk.out hbq)
        have N22 := hide (N20.out.below hbq (Nat.le_refl _))
        have G22 := hide (G20.out.below hbq (Nat.le_refl _))
        have C22 := hide (C20.out.below hbq (Nat.le_refl _))
        have B22 := hide (B20.out.below hbq (Nat.le_refl _))
        clear hbp hbq X21 X22 G20 C20 B20 S20 N20 HB20
        go_upto_region 11 with fail
        rw [HW21.out]
        clear s0 s1 s2 s3 s4 s5 s6
        go_upto_region 12 with fail
        rw [HW22.out]
        have q0 := HX22.out.get 0 rfl
        have q1 := HX22.out.get 1 rfl
        have q2 := HX22.out.get 2 rfl
        have q3 := HX22.out.get 3 rfl
        have q4 := HX22.out.get 4 rfl
        have q5 := HX22.out.get 5 rfl
        have q6 := HX22.out.get 6 rfl
        go_wp2_with fail
        refine (wrong_node _ X3 _ N22.out.node).mono ?_
        rintro e w23 ⟨rfl, hb23⟩
        rw [FF.out.1]
        have X23 := HX22.out.below hb23 (Nat.le_refl _)
        have G23 := G22.out.below hb23 (Nat.le_refl _)
        have N23 := hide (N22.out.below hb23 (Nat.le_refl _))
        have C23 := hide (C22.out.below hb23 (Nat.le_refl _))
        have B23 := hide (B22.out.below hb23 (Nat.le_refl _))
        have HB23 := hide (below_step HBQ.out hb23)
        have HX23 := hide X23
        have HG23 := hide G23
        have x1 := X23.get 1 rfl
        have g1 := G23.get 1 rfl
        clear q0 q1 q2 q3 q4 q5 q6 hb23 X23 G23 HX22 G22 N22 C22 B22 HBQ
        go_wp2_with fail
        refine (sees_clock _ _ X3.st.clock d.st.clock _ N23.out.clk.1 C23.out).mono ?_
        rintro e w24 ⟨rfl, hb24⟩
        rw [FF.out.2.1]
        have X24 := HX23.out.below hb24 (Nat.le_refl _)
        have G24 := HG23.out.below hb24 (Nat.le_refl _)
        have N24 := hide (N23.out.below hb24 (Nat.le_refl _))
        have B24 := hide (B23.out.below hb24 (Nat.le_refl _))
        have HB24 := hide (below_step HB23.out hb24)
        have x4 := X24.get 4 rfl
        have g4 := G24.get 4 rfl
        clear x1 g1 hb24 X24 G24 HX23 HG23 N23 C23 B23 HB23
        go_wp2_with fail
        refine (sees_clock _ _ X3.base d.base _ N24.out.clk.2.1 B24.out).mono ?_
        rintro e w25 ⟨rfl, hb25⟩
        rw [FF.out.2.2]
        have HB25 := hide (below_step HB24.out hb25)
        clear x4 g4 hb25 N24 B24 HB24
        go_wp2_with fail
        go_roundw
        case rel => exact ⟨3, by omega, by go_num, HB25⟩
        case measure => simp [intOf]
      · rw [show ((3 : Nat) : Int) = 3 from rfl]
        go_wp2_with fail
        go_ret
        exact ⟨rfl, HB20.out⟩
  · have hE' : (E != 0) = true := by simp [hE]
    clear hE
    go_enter Tryz.func4, Tryz.ntmps4
    go_wp2_with fail
    refine (alive6 _).mono ?_
    rintro e w1 ⟨rfl, hb⟩
    have HB1 := hide (below_step HB0.out hb)
    have G1 := hide (G0.out.below hb (Nat.le_refl _))
    have J1 := hide (J0.out.below hb (Nat.le_refl _))
    have V1 := hide (V0.out.below hb (Nat.le_refl _))
    have D1 := hide (D0.out.below hb (Nat.le_refl _))
    have U1 := hide (U0.out.below hb (Nat.le_refl _))
    have P1 := hide (P0.out.below hb (Nat.le_refl _))
    have C1 := hide (C0.out.below hb (Nat.le_refl _))
    have B1 := hide (B0.out.below hb (Nat.le_refl _))
    clear HB0 hb G0 J0 V0 D0 U0 P0 C0 B0
    have cG0 := G1.out.get 0 rfl
    have cG1 := G1.out.get 1 rfl
    have cG2 := G1.out.get 2 rfl
    have cG3 := G1.out.get 3 rfl
    have cG4 := G1.out.get 4 rfl
    have cG5 := G1.out.get 5 rfl
    have cG6 := G1.out.get 6 rfl
    go_wp2_with fail
    refine (wrong_node _ d _ D1.out).mono ?_
    rintro e w2 ⟨rfl, hb⟩
    have HB2 := hide (below_step HB1.out hb)
    have G2 := hide (G1.out.below hb (Nat.le_refl _))
    have J2 := hide (J1.out.below hb (Nat.le_refl _))
    have V2 := hide (V1.out.below hb (Nat.le_refl _))
    have D2 := hide (D1.out.below hb (Nat.le_refl _))
    have U2 := hide (U1.out.below hb (Nat.le_refl _))
    have P2 := hide (P1.out.below hb (Nat.le_refl _))
    have C2 := hide (C1.out.below hb (Nat.le_refl _))
    have B2 := hide (B1.out.below hb (Nat.le_refl _))
    clear HB1 hb G1 J1 V1 D1 U1 P1 C1 B1
    rw [HE.out]
    go_wp2_with fail
    go_ret
    exact ⟨rfl, HB2.out⟩
end Go.Proofs.YtlhdnpakafcbkaaGreat
